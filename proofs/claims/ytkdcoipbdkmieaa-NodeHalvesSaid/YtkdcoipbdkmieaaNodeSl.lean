/-
  Package node: Split.
-/
import Derived.Test.YtkdcoipbdkmieaaNodeCu
import Derived.Test.YtkdcoipbdkmieaaNodeG
namespace Go.Proofs.Ytkdcoipbdkmieaa
open Go.RowKit
set_option linter.unusedVariables false
set_option linter.unusedSimpArgs false
def SplitBack (A B : Nod) (mid : Int) (e : Ending) (w' : World) : Prop := ∃ ak av ac ck cv cc bk bv bc dk dv dc, e = .returned (.tuple #[nodV A ak av ac ck cv cc, .int .u64 mid, nodV B bk bv bc dk dv dc, .bool true]) ∧ NodR w' A ak av ac ck cv cc ∧ NodR w' B bk bv bc dk dv dc
def zeroV : Value := .agg #[.bool false, .slice none 0 0, .slice none 0 0, .slice none 0 0]
set_option maxHeartbeats 3200000 in
set_option maxRecDepth 20000 in
theorem split_unwhole (n : Nod) (ak av ac : Option Addr) (ck cv cc : Nat) (w : World) (h : NodR w n ak av ac ck cv cc) (hw : wholeB n = false) :
    Calls Try.prog 25 #[nodV n ak av ac ck cv cc] w fun e w' => e = .returned (.tuple #[zeroV, .int .u64 0, zeroV, .bool false]) ∧ Below w.heap.size w w' := by
  have WH := Lib.hid (fun w => whole_any n ak av ac ck cv cc w h.ok false hw)
  have LS := Lib.hid (fun w' => least_is n ak av ac ck cv cc w')
  have hk1 := h.ok.k1
  clear h hw
  obtain ⟨lf, K, V, C⟩ := n
  unfold nodV at *
  dsimp only at *
  generalize K.length = lk at *
  generalize V.length = lv at *
  generalize C.length = lc at *
  obtain ⟨W, hW⟩ : ∃ W, ((w.alloc (.cells #[.bool lf, .slice ak lk ck, .slice av lv cv, .slice ac lc cc] 26)).alloc (.cells #[.bool false, .slice none 0 0, .slice none 0 0, .slice none 0 0] 26)).alloc (.cells #[.bool false, .slice none 0 0, .slice none 0 0, .slice none 0 0] 26) = W := ⟨_, rfl⟩
  have hsz : (w.alloc (.cells #[.bool lf, .slice ak lk ck, .slice av lv cv, .slice ac lc cc] 26)).heap.size = w.heap.size + 1 := by simp
  have hsz2 : ((w.alloc (.cells #[.bool lf, .slice ak lk ck, .slice av lv cv, .slice ac lc cc] 26)).alloc (.cells #[.bool false, .slice none 0 0, .slice none 0 0, .slice none 0 0] 26)).heap.size = w.heap.size + 2 := by simp
  have bW : Below w.heap.size w W := by rw [← hW]; exact (((Below.refl _ _).alloc (Nat.le_refl _) _).alloc (by simp) _).alloc (by simp; omega) _
  have XW : Hid (W.heap[w.heap.size]? = some (.cells #[.bool lf, .slice ak lk ck, .slice av lv cv, .slice ac lc cc] 26)) := Lib.hid (by rw [← hW]; exact (heap_alloc_old _ _ (by simp; omega)).trans ((heap_alloc_old _ _ (by simp)).trans (heap_alloc_new w _)))
  have Z1 : Hid (W.heap[w.heap.size + 1]? = some (.cells #[.bool false, .slice none 0 0, .slice none 0 0, .slice none 0 0] 26)) := Lib.hid (by rw [← hW, ← hsz]; exact (heap_alloc_old _ _ (by simp)).trans (heap_alloc_new _ _))
  have Z2 : Hid (W.heap[w.heap.size + 2]? = some (.cells #[.bool false, .slice none 0 0, .slice none 0 0, .slice none 0 0] 26)) := Lib.hid (by rw [← hW, ← hsz2]; exact heap_alloc_new _ _)
  have BW := Lib.hid bW
  have HW := Lib.hid hW
  clear bW hW hsz hsz2
  go_enter Try.func25, Try.ntmps25
  go_wp2_with fail
  rw [HW.out]
  clear HW
  refine wp_region_held_drew (S := fun w' => Below W.heap.size W w') (by kernel_rfl) (Below.refl W.heap.size W).drew (fun hS => ?_)
  refine held_take (i := 0) 7 (v := ?vn0x1) rfl rfl (by kernel_rfl) (by kernel_rfl) (by kernel_rfl) (fun _ _ _ h => h) hS (by rfl) ?hn0x1 ?rn0x1
  case hn0x1 =>
    intro w9 s9
    have X9 := kept XW.out s9
    have c0 : w9.cell? ⟨w.heap.size, 0, none⟩ = some (.bool lf) := by rw [Go.Joins.cell_of_block X9]; rfl
    have c1 : w9.cell? ⟨w.heap.size, 1, none⟩ = some (.slice ak lk ck) := by rw [Go.Joins.cell_of_block X9]; rfl
    have c2 : w9.cell? ⟨w.heap.size, 2, none⟩ = some (.slice av lv cv) := by rw [Go.Joins.cell_of_block X9]; rfl
    have c3 : w9.cell? ⟨w.heap.size, 3, none⟩ = some (.slice ac lc cc) := by rw [Go.Joins.cell_of_block X9]; rfl
    clear s9
    go_simp
    try (with_reducible rfl)
  simp only [List.setIfInBounds_toArray, List.set_cons_zero, List.set_cons_succ]
  refine held_step (i := 1) rfl (by kernel_rfl) (fun K hK => ?_)
  have HK := Lib.hid hK
  clear hK
  go_simp
  go_wp2_with fail
  refine (WH.out _).mono ?_
  rintro e v1 ⟨rfl, b1⟩
  refine HK.out _ _ ?_ ?_
  · exact chain hS b1
  clear HK K
  try simp only [Act.put, List.setIfInBounds_toArray, List.set_cons_zero, List.set_cons_succ]
  have hS9 := chain hS b1
  clear hS
  have hS := hS9
  clear hS9
  clear b1
  refine held_take (i := 2) 9 (v := ?vn2x2) rfl rfl (by kernel_rfl) (by kernel_rfl) (by kernel_rfl) (fun _ _ _ h => h) hS (by rfl) ?hn2x2 ?rn2x2
  case hn2x2 =>
    intro w9 s9
    clear s9
    go_simp
    try (with_reducible rfl)
  simp only [List.setIfInBounds_toArray, List.set_cons_zero, List.set_cons_succ]
  refine held_take (i := 3) 10 (v := ?vn3x3) rfl rfl (by kernel_rfl) (by kernel_rfl) (by kernel_rfl) (fun _ _ _ h => h) hS (by rfl) ?hn3x3 ?rn3x3
  case hn3x3 =>
    intro w9 s9
    clear s9
    go_simp
    try (with_reducible rfl)
  simp only [List.setIfInBounds_toArray, List.set_cons_zero, List.set_cons_succ]
  refine held_none (i := 4) 11 rfl rfl (by kernel_rfl) (by kernel_rfl) (by kernel_rfl) (fun _ _ _ h => h) hS (by rfl) ?_
  simp only [List.setIfInBounds_toArray, List.set_cons_zero, List.set_cons_succ]
  refine held_none (i := 5) 12 rfl rfl (by kernel_rfl) (by kernel_rfl) (by kernel_rfl) (fun _ _ _ h => h) hS (by rfl) ?_
  simp only [List.setIfInBounds_toArray, List.set_cons_zero, List.set_cons_succ]
  refine held_none (i := 6) 13 rfl rfl (by kernel_rfl) (by kernel_rfl) (by kernel_rfl) (fun _ _ _ h => h) hS (by rfl) ?_
  simp only [List.setIfInBounds_toArray, List.set_cons_zero, List.set_cons_succ]
  refine held_none (i := 7) 14 rfl rfl (by kernel_rfl) (by kernel_rfl) (by kernel_rfl) (fun _ _ _ h => h) hS (by rfl) ?_
  simp only [List.setIfInBounds_toArray, List.set_cons_zero, List.set_cons_succ]
  refine held_none (i := 8) 15 rfl rfl (by kernel_rfl) (by kernel_rfl) (by kernel_rfl) (fun _ _ _ h => h) hS (by rfl) ?_
  simp only [List.setIfInBounds_toArray, List.set_cons_zero, List.set_cons_succ]
  refine held_none (i := 9) 16 rfl rfl (by kernel_rfl) (by kernel_rfl) (by kernel_rfl) (fun _ _ _ h => h) hS (by rfl) ?_
  simp only [List.setIfInBounds_toArray, List.set_cons_zero, List.set_cons_succ]
  refine held_take (i := 10) 17 (v := ?vn10x10) rfl rfl (by kernel_rfl) (by kernel_rfl) (by kernel_rfl) (fun _ _ _ h => h) hS (by rfl) ?hn10x10 ?rn10x10
  case hn10x10 =>
    intro w9 s9
    clear s9
    go_simp
    try (with_reducible rfl)
  simp only [List.setIfInBounds_toArray, List.set_cons_zero, List.set_cons_succ]
  refine wpAnyH_done (by kernel_rfl) ?_ _
  have H1 := Lib.hid hS
  clear hS
  have Y1 := kept Z1.out H1.out
  have Y2 := kept Z2.out H1.out
  have B2 := Lib.hid (chain BW.out H1.out)
  have y10 : v1.cell? ⟨w.heap.size + 1, 0, none⟩ = some (.bool false) := by rw [Go.Joins.cell_of_block Y1]; rfl
  have y11 : v1.cell? ⟨w.heap.size + 1, 1, none⟩ = some (.slice none 0 0) := by rw [Go.Joins.cell_of_block Y1]; rfl
  have y12 : v1.cell? ⟨w.heap.size + 1, 2, none⟩ = some (.slice none 0 0) := by rw [Go.Joins.cell_of_block Y1]; rfl
  have y13 : v1.cell? ⟨w.heap.size + 1, 3, none⟩ = some (.slice none 0 0) := by rw [Go.Joins.cell_of_block Y1]; rfl
  have f10 := Go.Joins.unfrozen_of_block Y1 0
  have f11 := Go.Joins.unfrozen_of_block Y1 1
  have f12 := Go.Joins.unfrozen_of_block Y1 2
  have f13 := Go.Joins.unfrozen_of_block Y1 3
  have y20 : v1.cell? ⟨w.heap.size + 2, 0, none⟩ = some (.bool false) := by rw [Go.Joins.cell_of_block Y2]; rfl
  have y21 : v1.cell? ⟨w.heap.size + 2, 1, none⟩ = some (.slice none 0 0) := by rw [Go.Joins.cell_of_block Y2]; rfl
  have y22 : v1.cell? ⟨w.heap.size + 2, 2, none⟩ = some (.slice none 0 0) := by rw [Go.Joins.cell_of_block Y2]; rfl
  have y23 : v1.cell? ⟨w.heap.size + 2, 3, none⟩ = some (.slice none 0 0) := by rw [Go.Joins.cell_of_block Y2]; rfl
  have f20 := Go.Joins.unfrozen_of_block Y2 0
  have f21 := Go.Joins.unfrozen_of_block Y2 1
  have f22 := Go.Joins.unfrozen_of_block Y2 2
  have f23 := Go.Joins.unfrozen_of_block Y2 3
  have FIN : Hid (Below w.heap.size w ((((((((v1.setCell ⟨w.heap.size + 1, 0, none⟩ (.bool false)).setCell ⟨w.heap.size + 1, 1, none⟩ (.slice none 0 0)).setCell ⟨w.heap.size + 1, 2, none⟩ (.slice none 0 0)).setCell ⟨w.heap.size + 1, 3, none⟩ (.slice none 0 0)).setCell ⟨w.heap.size + 2, 0, none⟩ (.bool false)).setCell ⟨w.heap.size + 2, 1, none⟩ (.slice none 0 0)).setCell ⟨w.heap.size + 2, 2, none⟩ (.slice none 0 0)).setCell ⟨w.heap.size + 2, 3, none⟩ (.slice none 0 0))) := Lib.hid ((((((((B2.out.setCell (Nat.le_add_right _ _) _).setCell (Nat.le_add_right _ _) _).setCell (Nat.le_add_right _ _) _).setCell (Nat.le_add_right _ _) _).setCell (Nat.le_add_right _ _) _).setCell (Nat.le_add_right _ _) _).setCell (Nat.le_add_right _ _) _).setCell (Nat.le_add_right _ _) _)
  have XR1 : ((((((((v1.setCell ⟨w.heap.size + 1, 0, none⟩ (.bool false)).setCell ⟨w.heap.size + 1, 1, none⟩ (.slice none 0 0)).setCell ⟨w.heap.size + 1, 2, none⟩ (.slice none 0 0)).setCell ⟨w.heap.size + 1, 3, none⟩ (.slice none 0 0)).setCell ⟨w.heap.size + 2, 0, none⟩ (.bool false)).setCell ⟨w.heap.size + 2, 1, none⟩ (.slice none 0 0)).setCell ⟨w.heap.size + 2, 2, none⟩ (.slice none 0 0)).setCell ⟨w.heap.size + 2, 3, none⟩ (.slice none 0 0)).heap[w.heap.size + 1]? = some (.cells #[.bool false, .slice none 0 0, .slice none 0 0, .slice none 0 0] 26) := by
    have hne : ∀ i, w.heap.size + 1 ≠ (⟨w.heap.size + 2, i, none⟩ : Addr).block := fun i => by show w.heap.size + 1 ≠ w.heap.size + 2; omega
    rw [Below.heap_setCell _ _ _ _ (hne 3), Below.heap_setCell _ _ _ _ (hne 2), Below.heap_setCell _ _ _ _ (hne 1), Below.heap_setCell _ _ _ _ (hne 0),
      heap_setCell_same _ _ 3 _ _ _ (heap_setCell_same _ _ 2 _ _ _ (heap_setCell_same _ _ 1 _ _ _ (heap_setCell_same _ _ 0 _ _ _ Y1)))]
    rfl
  have hne1 : ∀ i, w.heap.size + 2 ≠ (⟨w.heap.size + 1, i, none⟩ : Addr).block := fun i => by show w.heap.size + 2 ≠ w.heap.size + 1; omega
  have XR2 : ((((((((v1.setCell ⟨w.heap.size + 1, 0, none⟩ (.bool false)).setCell ⟨w.heap.size + 1, 1, none⟩ (.slice none 0 0)).setCell ⟨w.heap.size + 1, 2, none⟩ (.slice none 0 0)).setCell ⟨w.heap.size + 1, 3, none⟩ (.slice none 0 0)).setCell ⟨w.heap.size + 2, 0, none⟩ (.bool false)).setCell ⟨w.heap.size + 2, 1, none⟩ (.slice none 0 0)).setCell ⟨w.heap.size + 2, 2, none⟩ (.slice none 0 0)).setCell ⟨w.heap.size + 2, 3, none⟩ (.slice none 0 0)).heap[w.heap.size + 2]? = some (.cells #[.bool false, .slice none 0 0, .slice none 0 0, .slice none 0 0] 26) := by
    have Y2' : ((((v1.setCell ⟨w.heap.size + 1, 0, none⟩ (.bool false)).setCell ⟨w.heap.size + 1, 1, none⟩ (.slice none 0 0)).setCell ⟨w.heap.size + 1, 2, none⟩ (.slice none 0 0)).setCell ⟨w.heap.size + 1, 3, none⟩ (.slice none 0 0)).heap[w.heap.size + 2]? = some (.cells #[.bool false, .slice none 0 0, .slice none 0 0, .slice none 0 0] 26) := by
      rw [Below.heap_setCell _ _ _ _ (hne1 3), Below.heap_setCell _ _ _ _ (hne1 2), Below.heap_setCell _ _ _ _ (hne1 1), Below.heap_setCell _ _ _ _ (hne1 0)]
      exact Y2
    rw [heap_setCell_same _ _ 3 _ _ _ (heap_setCell_same _ _ 2 _ _ _ (heap_setCell_same _ _ 1 _ _ _ (heap_setCell_same _ _ 0 _ _ _ Y2')))]
    rfl
  clear hne1 Z1 Z2 XW BW H1 Y1 Y2
  go_wp2_with fail
  clear y10 f10 y11 f11 y12 f12 y13 f13 y20 f20 y21 f21 y22 f22 y23 f23
  generalize ((((((((v1.setCell ⟨w.heap.size + 1, 0, none⟩ (.bool false)).setCell ⟨w.heap.size + 1, 1, none⟩ (.slice none 0 0)).setCell ⟨w.heap.size + 1, 2, none⟩ (.slice none 0 0)).setCell ⟨w.heap.size + 1, 3, none⟩ (.slice none 0 0)).setCell ⟨w.heap.size + 2, 0, none⟩ (.bool false)).setCell ⟨w.heap.size + 2, 1, none⟩ (.slice none 0 0)).setCell ⟨w.heap.size + 2, 2, none⟩ (.slice none 0 0)).setCell ⟨w.heap.size + 2, 3, none⟩ (.slice none 0 0)) = wz at *
  have z10 : wz.cell? ⟨w.heap.size + 1, 0, none⟩ = some (.bool false) := by rw [Go.Joins.cell_of_block XR1]; rfl
  have z11 : wz.cell? ⟨w.heap.size + 1, 1, none⟩ = some (.slice none 0 0) := by rw [Go.Joins.cell_of_block XR1]; rfl
  have z12 : wz.cell? ⟨w.heap.size + 1, 2, none⟩ = some (.slice none 0 0) := by rw [Go.Joins.cell_of_block XR1]; rfl
  have z13 : wz.cell? ⟨w.heap.size + 1, 3, none⟩ = some (.slice none 0 0) := by rw [Go.Joins.cell_of_block XR1]; rfl
  have z20 : wz.cell? ⟨w.heap.size + 2, 0, none⟩ = some (.bool false) := by rw [Go.Joins.cell_of_block XR2]; rfl
  have z21 : wz.cell? ⟨w.heap.size + 2, 1, none⟩ = some (.slice none 0 0) := by rw [Go.Joins.cell_of_block XR2]; rfl
  have z22 : wz.cell? ⟨w.heap.size + 2, 2, none⟩ = some (.slice none 0 0) := by rw [Go.Joins.cell_of_block XR2]; rfl
  have z23 : wz.cell? ⟨w.heap.size + 2, 3, none⟩ = some (.slice none 0 0) := by rw [Go.Joins.cell_of_block XR2]; rfl
  exact bodyPost_ret (v := .tuple #[.agg #[.bool false, .slice none 0 0, .slice none 0 0, .slice none 0 0], .int .u64 0, .agg #[.bool false, .slice none 0 0, .slice none 0 0, .slice none 0 0], .bool false]) (by simp [results, Try.results25, go_sem, z10, z11, z12, z13, z20, z21, z22, z23]) rfl ⟨rfl, FIN.out⟩
set_option maxHeartbeats 3200000 in
set_option maxRecDepth 20000 in
theorem split_few (n : Nod) (ak av ac : Option Addr) (ck cv cc : Nat) (w : World) (h : NodR w n ak av ac ck cv cc) (hw : wholeB n = true) (hl : n.K.length < leastN n.leaf) :
    Calls Try.prog 25 #[nodV n ak av ac ck cv cc] w fun e w' => e = .returned (.tuple #[zeroV, .int .u64 0, zeroV, .bool false]) ∧ Below w.heap.size w w' := by
  have WH := Lib.hid (fun w => whole_any n ak av ac ck cv cc w h.ok true hw)
  have LS := Lib.hid (fun w' => least_is n ak av ac ck cv cc w')
  have hk1 := h.ok.k1
  have hli : (n.K.length : Int) < (leastN n.leaf : Int) := by omega
  have hln : n.K.length < leastN n.leaf := hl
  clear h hw hl
  obtain ⟨lf, K, V, C⟩ := n
  unfold nodV at *
  dsimp only at *
  generalize K.length = lk at *
  generalize V.length = lv at *
  generalize C.length = lc at *
  obtain ⟨W, hW⟩ : ∃ W, ((w.alloc (.cells #[.bool lf, .slice ak lk ck, .slice av lv cv, .slice ac lc cc] 26)).alloc (.cells #[.bool false, .slice none 0 0, .slice none 0 0, .slice none 0 0] 26)).alloc (.cells #[.bool false, .slice none 0 0, .slice none 0 0, .slice none 0 0] 26) = W := ⟨_, rfl⟩
  have hsz : (w.alloc (.cells #[.bool lf, .slice ak lk ck, .slice av lv cv, .slice ac lc cc] 26)).heap.size = w.heap.size + 1 := by simp
  have hsz2 : ((w.alloc (.cells #[.bool lf, .slice ak lk ck, .slice av lv cv, .slice ac lc cc] 26)).alloc (.cells #[.bool false, .slice none 0 0, .slice none 0 0, .slice none 0 0] 26)).heap.size = w.heap.size + 2 := by simp
  have bW : Below w.heap.size w W := by rw [← hW]; exact (((Below.refl _ _).alloc (Nat.le_refl _) _).alloc (by simp) _).alloc (by simp; omega) _
  have XW : Hid (W.heap[w.heap.size]? = some (.cells #[.bool lf, .slice ak lk ck, .slice av lv cv, .slice ac lc cc] 26)) := Lib.hid (by rw [← hW]; exact (heap_alloc_old _ _ (by simp; omega)).trans ((heap_alloc_old _ _ (by simp)).trans (heap_alloc_new w _)))
  have Z1 : Hid (W.heap[w.heap.size + 1]? = some (.cells #[.bool false, .slice none 0 0, .slice none 0 0, .slice none 0 0] 26)) := Lib.hid (by rw [← hW, ← hsz]; exact (heap_alloc_old _ _ (by simp)).trans (heap_alloc_new _ _))
  have Z2 : Hid (W.heap[w.heap.size + 2]? = some (.cells #[.bool false, .slice none 0 0, .slice none 0 0, .slice none 0 0] 26)) := Lib.hid (by rw [← hW, ← hsz2]; exact heap_alloc_new _ _)
  have BW := Lib.hid bW
  have HW := Lib.hid hW
  clear bW hW hsz hsz2
  go_enter Try.func25, Try.ntmps25
  go_wp2_with fail
  rw [HW.out]
  clear HW
  refine wp_region_held_drew (S := fun w' => Below W.heap.size W w') (by kernel_rfl) (Below.refl W.heap.size W).drew (fun hS => ?_)
  refine held_take (i := 0) 7 (v := ?vn0x1) rfl rfl (by kernel_rfl) (by kernel_rfl) (by kernel_rfl) (fun _ _ _ h => h) hS (by rfl) ?hn0x1 ?rn0x1
  case hn0x1 =>
    intro w9 s9
    have X9 := kept XW.out s9
    have c0 : w9.cell? ⟨w.heap.size, 0, none⟩ = some (.bool lf) := by rw [Go.Joins.cell_of_block X9]; rfl
    have c1 : w9.cell? ⟨w.heap.size, 1, none⟩ = some (.slice ak lk ck) := by rw [Go.Joins.cell_of_block X9]; rfl
    have c2 : w9.cell? ⟨w.heap.size, 2, none⟩ = some (.slice av lv cv) := by rw [Go.Joins.cell_of_block X9]; rfl
    have c3 : w9.cell? ⟨w.heap.size, 3, none⟩ = some (.slice ac lc cc) := by rw [Go.Joins.cell_of_block X9]; rfl
    clear s9
    go_simp
    try (with_reducible rfl)
  simp only [List.setIfInBounds_toArray, List.set_cons_zero, List.set_cons_succ]
  refine held_step (i := 1) rfl (by kernel_rfl) (fun K hK => ?_)
  have HK := Lib.hid hK
  clear hK
  go_simp
  go_wp2_with fail
  refine (WH.out _).mono ?_
  rintro e v1 ⟨rfl, b1⟩
  refine HK.out _ _ ?_ ?_
  · exact chain hS b1
  clear HK K
  try simp only [Act.put, List.setIfInBounds_toArray, List.set_cons_zero, List.set_cons_succ]
  have hS9 := chain hS b1
  clear hS
  have hS := hS9
  clear hS9
  clear b1
  refine held_take (i := 2) 9 (v := ?vn2x2) rfl rfl (by kernel_rfl) (by kernel_rfl) (by kernel_rfl) (fun _ _ _ h => h) hS (by rfl) ?hn2x2 ?rn2x2
  case hn2x2 =>
    intro w9 s9
    clear s9
    go_simp
    try (with_reducible rfl)
  simp only [List.setIfInBounds_toArray, List.set_cons_zero, List.set_cons_succ]
  refine held_take (i := 3) 10 (v := ?vn3x3) rfl rfl (by kernel_rfl) (by kernel_rfl) (by kernel_rfl) (fun _ _ _ h => h) hS (by rfl) ?hn3x3 ?rn3x3
  case hn3x3 =>
    intro w9 s9
    clear s9
    go_simp
    try (with_reducible rfl)
  simp only [List.setIfInBounds_toArray, List.set_cons_zero, List.set_cons_succ]
  refine held_take (i := 4) 11 (v := ?vn4x4) rfl rfl (by kernel_rfl) (by kernel_rfl) (by kernel_rfl) (fun _ _ _ h => h) hS (by rfl) ?hn4x4 ?rn4x4
  case hn4x4 =>
    intro w9 s9
    clear s9
    go_simp
    try (with_reducible rfl)
  simp only [List.setIfInBounds_toArray, List.set_cons_zero, List.set_cons_succ]
  refine held_take (i := 5) 12 (v := ?vn5x5) rfl rfl (by kernel_rfl) (by kernel_rfl) (by kernel_rfl) (fun _ _ _ h => h) hS (by rfl) ?hn5x5 ?rn5x5
  case hn5x5 =>
    intro w9 s9
    have X9 := kept XW.out s9
    have c0 : w9.cell? ⟨w.heap.size, 0, none⟩ = some (.bool lf) := by rw [Go.Joins.cell_of_block X9]; rfl
    have c1 : w9.cell? ⟨w.heap.size, 1, none⟩ = some (.slice ak lk ck) := by rw [Go.Joins.cell_of_block X9]; rfl
    have c2 : w9.cell? ⟨w.heap.size, 2, none⟩ = some (.slice av lv cv) := by rw [Go.Joins.cell_of_block X9]; rfl
    have c3 : w9.cell? ⟨w.heap.size, 3, none⟩ = some (.slice ac lc cc) := by rw [Go.Joins.cell_of_block X9]; rfl
    clear s9
    go_simp
    try (with_reducible rfl)
  simp only [List.setIfInBounds_toArray, List.set_cons_zero, List.set_cons_succ]
  refine held_take (i := 6) 13 (v := ?vn6x6) rfl rfl (by kernel_rfl) (by kernel_rfl) (by kernel_rfl) (fun _ _ _ h => h) hS (by rfl) ?hn6x6 ?rn6x6
  case hn6x6 =>
    intro w9 s9
    clear s9
    go_simp
    try (with_reducible rfl)
  simp only [List.setIfInBounds_toArray, List.set_cons_zero, List.set_cons_succ]
  refine held_take (i := 7) 14 (v := ?vn7x7) rfl rfl (by kernel_rfl) (by kernel_rfl) (by kernel_rfl) (fun _ _ _ h => h) hS (by rfl) ?hn7x7 ?rn7x7
  case hn7x7 =>
    intro w9 s9
    have X9 := kept XW.out s9
    have c0 : w9.cell? ⟨w.heap.size, 0, none⟩ = some (.bool lf) := by rw [Go.Joins.cell_of_block X9]; rfl
    have c1 : w9.cell? ⟨w.heap.size, 1, none⟩ = some (.slice ak lk ck) := by rw [Go.Joins.cell_of_block X9]; rfl
    have c2 : w9.cell? ⟨w.heap.size, 2, none⟩ = some (.slice av lv cv) := by rw [Go.Joins.cell_of_block X9]; rfl
    have c3 : w9.cell? ⟨w.heap.size, 3, none⟩ = some (.slice ac lc cc) := by rw [Go.Joins.cell_of_block X9]; rfl
    clear s9
    go_simp
    try (with_reducible rfl)
  simp only [List.setIfInBounds_toArray, List.set_cons_zero, List.set_cons_succ]
  refine held_step (i := 8) rfl (by kernel_rfl) (fun K hK => ?_)
  have HK := Lib.hid hK
  clear hK
  go_simp
  go_wp2_with fail
  refine (LS.out _).mono ?_
  rintro e v2 ⟨rfl, b2⟩
  refine HK.out _ _ ?_ ?_
  · exact chain hS b2
  clear HK K
  try simp only [Act.put, List.setIfInBounds_toArray, List.set_cons_zero, List.set_cons_succ]
  have hS9 := chain hS b2
  clear hS
  have hS := hS9
  clear hS9
  clear b2
  refine held_take (i := 9) 16 (v := ?vn9x8) rfl rfl (by kernel_rfl) (by kernel_rfl) (by kernel_rfl) (fun _ _ _ h => h) hS (by rfl) ?hn9x8 ?rn9x8
  case hn9x8 =>
    intro w9 s9
    clear s9
    go_simp
    try (with_reducible rfl)
  simp only [List.setIfInBounds_toArray, List.set_cons_zero, List.set_cons_succ]
  refine held_take (i := 10) 17 (v := ?vn10x9) rfl rfl (by kernel_rfl) (by kernel_rfl) (by kernel_rfl) (fun _ _ _ h => h) hS (by rfl) ?hn10x9 ?rn10x9
  case hn10x9 =>
    intro w9 s9
    clear s9
    go_simp
    try (with_reducible rfl)
  simp only [List.setIfInBounds_toArray, List.set_cons_zero, List.set_cons_succ]
  refine wpAnyH_done (by kernel_rfl) ?_ _
  have H1 := Lib.hid hS
  clear hS
  have Y1 := kept Z1.out H1.out
  have Y2 := kept Z2.out H1.out
  have B2 := Lib.hid (chain BW.out H1.out)
  have y10 : v2.cell? ⟨w.heap.size + 1, 0, none⟩ = some (.bool false) := by rw [Go.Joins.cell_of_block Y1]; rfl
  have y11 : v2.cell? ⟨w.heap.size + 1, 1, none⟩ = some (.slice none 0 0) := by rw [Go.Joins.cell_of_block Y1]; rfl
  have y12 : v2.cell? ⟨w.heap.size + 1, 2, none⟩ = some (.slice none 0 0) := by rw [Go.Joins.cell_of_block Y1]; rfl
  have y13 : v2.cell? ⟨w.heap.size + 1, 3, none⟩ = some (.slice none 0 0) := by rw [Go.Joins.cell_of_block Y1]; rfl
  have f10 := Go.Joins.unfrozen_of_block Y1 0
  have f11 := Go.Joins.unfrozen_of_block Y1 1
  have f12 := Go.Joins.unfrozen_of_block Y1 2
  have f13 := Go.Joins.unfrozen_of_block Y1 3
  have y20 : v2.cell? ⟨w.heap.size + 2, 0, none⟩ = some (.bool false) := by rw [Go.Joins.cell_of_block Y2]; rfl
  have y21 : v2.cell? ⟨w.heap.size + 2, 1, none⟩ = some (.slice none 0 0) := by rw [Go.Joins.cell_of_block Y2]; rfl
  have y22 : v2.cell? ⟨w.heap.size + 2, 2, none⟩ = some (.slice none 0 0) := by rw [Go.Joins.cell_of_block Y2]; rfl
  have y23 : v2.cell? ⟨w.heap.size + 2, 3, none⟩ = some (.slice none 0 0) := by rw [Go.Joins.cell_of_block Y2]; rfl
  have f20 := Go.Joins.unfrozen_of_block Y2 0
  have f21 := Go.Joins.unfrozen_of_block Y2 1
  have f22 := Go.Joins.unfrozen_of_block Y2 2
  have f23 := Go.Joins.unfrozen_of_block Y2 3
  have FIN : Hid (Below w.heap.size w ((((((((v2.setCell ⟨w.heap.size + 1, 0, none⟩ (.bool false)).setCell ⟨w.heap.size + 1, 1, none⟩ (.slice none 0 0)).setCell ⟨w.heap.size + 1, 2, none⟩ (.slice none 0 0)).setCell ⟨w.heap.size + 1, 3, none⟩ (.slice none 0 0)).setCell ⟨w.heap.size + 2, 0, none⟩ (.bool false)).setCell ⟨w.heap.size + 2, 1, none⟩ (.slice none 0 0)).setCell ⟨w.heap.size + 2, 2, none⟩ (.slice none 0 0)).setCell ⟨w.heap.size + 2, 3, none⟩ (.slice none 0 0))) := Lib.hid ((((((((B2.out.setCell (Nat.le_add_right _ _) _).setCell (Nat.le_add_right _ _) _).setCell (Nat.le_add_right _ _) _).setCell (Nat.le_add_right _ _) _).setCell (Nat.le_add_right _ _) _).setCell (Nat.le_add_right _ _) _).setCell (Nat.le_add_right _ _) _).setCell (Nat.le_add_right _ _) _)
  have XR1 : ((((((((v2.setCell ⟨w.heap.size + 1, 0, none⟩ (.bool false)).setCell ⟨w.heap.size + 1, 1, none⟩ (.slice none 0 0)).setCell ⟨w.heap.size + 1, 2, none⟩ (.slice none 0 0)).setCell ⟨w.heap.size + 1, 3, none⟩ (.slice none 0 0)).setCell ⟨w.heap.size + 2, 0, none⟩ (.bool false)).setCell ⟨w.heap.size + 2, 1, none⟩ (.slice none 0 0)).setCell ⟨w.heap.size + 2, 2, none⟩ (.slice none 0 0)).setCell ⟨w.heap.size + 2, 3, none⟩ (.slice none 0 0)).heap[w.heap.size + 1]? = some (.cells #[.bool false, .slice none 0 0, .slice none 0 0, .slice none 0 0] 26) := by
    have hne : ∀ i, w.heap.size + 1 ≠ (⟨w.heap.size + 2, i, none⟩ : Addr).block := fun i => by show w.heap.size + 1 ≠ w.heap.size + 2; omega
    rw [Below.heap_setCell _ _ _ _ (hne 3), Below.heap_setCell _ _ _ _ (hne 2), Below.heap_setCell _ _ _ _ (hne 1), Below.heap_setCell _ _ _ _ (hne 0),
      heap_setCell_same _ _ 3 _ _ _ (heap_setCell_same _ _ 2 _ _ _ (heap_setCell_same _ _ 1 _ _ _ (heap_setCell_same _ _ 0 _ _ _ Y1)))]
    rfl
  have hne1 : ∀ i, w.heap.size + 2 ≠ (⟨w.heap.size + 1, i, none⟩ : Addr).block := fun i => by show w.heap.size + 2 ≠ w.heap.size + 1; omega
  have XR2 : ((((((((v2.setCell ⟨w.heap.size + 1, 0, none⟩ (.bool false)).setCell ⟨w.heap.size + 1, 1, none⟩ (.slice none 0 0)).setCell ⟨w.heap.size + 1, 2, none⟩ (.slice none 0 0)).setCell ⟨w.heap.size + 1, 3, none⟩ (.slice none 0 0)).setCell ⟨w.heap.size + 2, 0, none⟩ (.bool false)).setCell ⟨w.heap.size + 2, 1, none⟩ (.slice none 0 0)).setCell ⟨w.heap.size + 2, 2, none⟩ (.slice none 0 0)).setCell ⟨w.heap.size + 2, 3, none⟩ (.slice none 0 0)).heap[w.heap.size + 2]? = some (.cells #[.bool false, .slice none 0 0, .slice none 0 0, .slice none 0 0] 26) := by
    have Y2' : ((((v2.setCell ⟨w.heap.size + 1, 0, none⟩ (.bool false)).setCell ⟨w.heap.size + 1, 1, none⟩ (.slice none 0 0)).setCell ⟨w.heap.size + 1, 2, none⟩ (.slice none 0 0)).setCell ⟨w.heap.size + 1, 3, none⟩ (.slice none 0 0)).heap[w.heap.size + 2]? = some (.cells #[.bool false, .slice none 0 0, .slice none 0 0, .slice none 0 0] 26) := by
      rw [Below.heap_setCell _ _ _ _ (hne1 3), Below.heap_setCell _ _ _ _ (hne1 2), Below.heap_setCell _ _ _ _ (hne1 1), Below.heap_setCell _ _ _ _ (hne1 0)]
      exact Y2
    rw [heap_setCell_same _ _ 3 _ _ _ (heap_setCell_same _ _ 2 _ _ _ (heap_setCell_same _ _ 1 _ _ _ (heap_setCell_same _ _ 0 _ _ _ Y2')))]
    rfl
  clear hne1 Z1 Z2 XW BW H1 Y1 Y2
  go_wp2_with fail
  clear y10 f10 y11 f11 y12 f12 y13 f13 y20 f20 y21 f21 y22 f22 y23 f23
  generalize ((((((((v2.setCell ⟨w.heap.size + 1, 0, none⟩ (.bool false)).setCell ⟨w.heap.size + 1, 1, none⟩ (.slice none 0 0)).setCell ⟨w.heap.size + 1, 2, none⟩ (.slice none 0 0)).setCell ⟨w.heap.size + 1, 3, none⟩ (.slice none 0 0)).setCell ⟨w.heap.size + 2, 0, none⟩ (.bool false)).setCell ⟨w.heap.size + 2, 1, none⟩ (.slice none 0 0)).setCell ⟨w.heap.size + 2, 2, none⟩ (.slice none 0 0)).setCell ⟨w.heap.size + 2, 3, none⟩ (.slice none 0 0)) = wz at *
  have z10 : wz.cell? ⟨w.heap.size + 1, 0, none⟩ = some (.bool false) := by rw [Go.Joins.cell_of_block XR1]; rfl
  have z11 : wz.cell? ⟨w.heap.size + 1, 1, none⟩ = some (.slice none 0 0) := by rw [Go.Joins.cell_of_block XR1]; rfl
  have z12 : wz.cell? ⟨w.heap.size + 1, 2, none⟩ = some (.slice none 0 0) := by rw [Go.Joins.cell_of_block XR1]; rfl
  have z13 : wz.cell? ⟨w.heap.size + 1, 3, none⟩ = some (.slice none 0 0) := by rw [Go.Joins.cell_of_block XR1]; rfl
  have z20 : wz.cell? ⟨w.heap.size + 2, 0, none⟩ = some (.bool false) := by rw [Go.Joins.cell_of_block XR2]; rfl
  have z21 : wz.cell? ⟨w.heap.size + 2, 1, none⟩ = some (.slice none 0 0) := by rw [Go.Joins.cell_of_block XR2]; rfl
  have z22 : wz.cell? ⟨w.heap.size + 2, 2, none⟩ = some (.slice none 0 0) := by rw [Go.Joins.cell_of_block XR2]; rfl
  have z23 : wz.cell? ⟨w.heap.size + 2, 3, none⟩ = some (.slice none 0 0) := by rw [Go.Joins.cell_of_block XR2]; rfl
  exact bodyPost_ret (v := .tuple #[.agg #[.bool false, .slice none 0 0, .slice none 0 0, .slice none 0 0], .int .u64 0, .agg #[.bool false, .slice none 0 0, .slice none 0 0, .slice none 0 0], .bool false]) (by simp [results, Try.results25, go_sem, z10, z11, z12, z13, z20, z21, z22, z23]) rfl ⟨rfl, FIN.out⟩
set_option maxHeartbeats 3200000 in
set_option maxRecDepth 20000 in
theorem split_yes (n : Nod) (ak av ac : Option Addr) (ck cv cc : Nat) (w : World) (h : NodR w n ak av ac ck cv cc) (hw : wholeB n = true) (hl : leastN n.leaf ≤ n.K.length) (mid : Int) (hm : n.K[cutN n]? = some mid) :
    Calls Try.prog 25 #[nodV n ak av ac ck cv cc] w fun e w' => SplitBack (aheadN n (cutN n)) (behindN n (cutN n)) mid e w' ∧ Below w.heap.size w w' := by
  have hle2 : 2 ≤ leastN n.leaf := by unfold leastN; split <;> omega
  have hcl := (cutN_le n).2
  have hc1 : cutN n + 1 ≤ n.K.length := by unfold mostN at hcl; omega
  have WH := Lib.hid (fun w => whole_any n ak av ac ck cv cc w h.ok true hw)
  have LS := Lib.hid (fun w' => least_is n ak av ac ck cv cc w')
  have CU := Lib.hid (fun w' (hb : Below w.heap.size w w') => cut_is n ak av ac ck cv cc w' (h.below hb) hw hl)
  have AH := Lib.hid (fun w' (hb : Below w.heap.size w w') => ahead_is n ak av ac ck cv cc w' (h.below hb) (cutN n) hw (by omega))
  have BH := Lib.hid (fun w' (hb : Below w.heap.size w w') => behind_is n ak av ac ck cv cc w' (h.below hb) (cutN n) hw hc1)
  have FK : Hid (∀ w', Below w.heap.size w w' → ∃ b off, ak = some ⟨b, off, none⟩ ∧ b < w'.heap.size ∧ w'.cell? ⟨b, off + cutN n, none⟩ = some (.int .u64 mid)) := Lib.hid (fun w' hb => by
    obtain ⟨hq, hq2⟩ := List.getElem?_eq_some_iff.1 hm
    obtain ⟨b, off, q1, q2, q3⟩ := (h.below hb).k.at (cutN n) (by simpa using hq)
    exact ⟨b, off, q1, q2, by rw [q3]; simp [ukey, hq2]⟩)
  obtain ⟨A, hA⟩ : ∃ A, aheadN n (cutN n) = A := ⟨_, rfl⟩
  obtain ⟨B, hB⟩ : ∃ B, behindN n (cutN n) = B := ⟨_, rfl⟩
  rw [hA] at AH ⊢
  rw [hB] at BH ⊢
  have hk1 := h.ok.k1
  have hli : ¬ (n.K.length : Int) < (leastN n.leaf : Int) := by omega
  have hln : ¬ n.K.length < leastN n.leaf := by omega
  have hci : (cutN n : Int) < (n.K.length : Int) := by omega
  generalize cutN n = c at *
  obtain ⟨kb, ko, rfl, -, -⟩ := FK.out w (Below.refl _ _)
  have FC : Hid (∀ w', Below w.heap.size w w' → w'.cell? ⟨kb, ko + c, none⟩ = some (.int .u64 mid)) := Lib.hid (fun w' hb => by
    obtain ⟨b, off, he, -, hc⟩ := FK.out w' hb
    cases he
    exact hc)
  clear h hw hl hm hA hB hcl hc1 hle2 FK
  obtain ⟨lf, K, V, C⟩ := n
  unfold nodV at *
  dsimp only at *
  generalize K.length = lk at *
  generalize V.length = lv at *
  generalize C.length = lc at *
  obtain ⟨W, hW⟩ : ∃ W, ((w.alloc (.cells #[.bool lf, .slice (some ⟨kb, ko, none⟩) lk ck, .slice av lv cv, .slice ac lc cc] 26)).alloc (.cells #[.bool false, .slice none 0 0, .slice none 0 0, .slice none 0 0] 26)).alloc (.cells #[.bool false, .slice none 0 0, .slice none 0 0, .slice none 0 0] 26) = W := ⟨_, rfl⟩
  have hsz : (w.alloc (.cells #[.bool lf, .slice (some ⟨kb, ko, none⟩) lk ck, .slice av lv cv, .slice ac lc cc] 26)).heap.size = w.heap.size + 1 := by simp
  have hsz2 : ((w.alloc (.cells #[.bool lf, .slice (some ⟨kb, ko, none⟩) lk ck, .slice av lv cv, .slice ac lc cc] 26)).alloc (.cells #[.bool false, .slice none 0 0, .slice none 0 0, .slice none 0 0] 26)).heap.size = w.heap.size + 2 := by simp
  have bW : Below w.heap.size w W := by rw [← hW]; exact (((Below.refl _ _).alloc (Nat.le_refl _) _).alloc (by simp) _).alloc (by simp; omega) _
  have XW : Hid (W.heap[w.heap.size]? = some (.cells #[.bool lf, .slice (some ⟨kb, ko, none⟩) lk ck, .slice av lv cv, .slice ac lc cc] 26)) := Lib.hid (by rw [← hW]; exact (heap_alloc_old _ _ (by simp; omega)).trans ((heap_alloc_old _ _ (by simp)).trans (heap_alloc_new w _)))
  have Z1 : Hid (W.heap[w.heap.size + 1]? = some (.cells #[.bool false, .slice none 0 0, .slice none 0 0, .slice none 0 0] 26)) := Lib.hid (by rw [← hW, ← hsz]; exact (heap_alloc_old _ _ (by simp)).trans (heap_alloc_new _ _))
  have Z2 : Hid (W.heap[w.heap.size + 2]? = some (.cells #[.bool false, .slice none 0 0, .slice none 0 0, .slice none 0 0] 26)) := Lib.hid (by rw [← hW, ← hsz2]; exact heap_alloc_new _ _)
  have BW := Lib.hid bW
  have HW := Lib.hid hW
  clear bW hW hsz hsz2
  go_enter Try.func25, Try.ntmps25
  go_wp2_with fail
  rw [HW.out]
  clear HW
  refine wp_region_held_drew (S := fun w' => Below W.heap.size W w') (by kernel_rfl) (Below.refl W.heap.size W).drew (fun hS => ?_)
  refine held_take (i := 0) 7 (v := ?vy0x1) rfl rfl (by kernel_rfl) (by kernel_rfl) (by kernel_rfl) (fun _ _ _ h => h) hS (by rfl) ?hy0x1 ?ry0x1
  case hy0x1 =>
    intro w9 s9
    have X9 := kept XW.out s9
    have c0 : w9.cell? ⟨w.heap.size, 0, none⟩ = some (.bool lf) := by rw [Go.Joins.cell_of_block X9]; rfl
    have c1 : w9.cell? ⟨w.heap.size, 1, none⟩ = some (.slice (some ⟨kb, ko, none⟩) lk ck) := by rw [Go.Joins.cell_of_block X9]; rfl
    have c2 : w9.cell? ⟨w.heap.size, 2, none⟩ = some (.slice av lv cv) := by rw [Go.Joins.cell_of_block X9]; rfl
    have c3 : w9.cell? ⟨w.heap.size, 3, none⟩ = some (.slice ac lc cc) := by rw [Go.Joins.cell_of_block X9]; rfl
    clear s9
    go_simp
    try (with_reducible rfl)
  simp only [List.setIfInBounds_toArray, List.set_cons_zero, List.set_cons_succ]
  refine held_step (i := 1) rfl (by kernel_rfl) (fun K hK => ?_)
  have HK := Lib.hid hK
  clear hK
  go_simp
  go_wp2_with fail
  refine (WH.out _).mono ?_
  rintro e v1 ⟨rfl, b1⟩
  refine HK.out _ _ ?_ ?_
  · exact chain hS b1
  clear HK K
  try simp only [Act.put, List.setIfInBounds_toArray, List.set_cons_zero, List.set_cons_succ]
  have hS9 := chain hS b1
  clear hS
  have hS := hS9
  clear hS9
  clear b1
  refine held_take (i := 2) 9 (v := ?vy2x2) rfl rfl (by kernel_rfl) (by kernel_rfl) (by kernel_rfl) (fun _ _ _ h => h) hS (by rfl) ?hy2x2 ?ry2x2
  case hy2x2 =>
    intro w9 s9
    clear s9
    go_simp
    try (with_reducible rfl)
  simp only [List.setIfInBounds_toArray, List.set_cons_zero, List.set_cons_succ]
  refine held_take (i := 3) 10 (v := ?vy3x3) rfl rfl (by kernel_rfl) (by kernel_rfl) (by kernel_rfl) (fun _ _ _ h => h) hS (by rfl) ?hy3x3 ?ry3x3
  case hy3x3 =>
    intro w9 s9
    clear s9
    go_simp
    try (with_reducible rfl)
  simp only [List.setIfInBounds_toArray, List.set_cons_zero, List.set_cons_succ]
  refine held_take (i := 4) 11 (v := ?vy4x4) rfl rfl (by kernel_rfl) (by kernel_rfl) (by kernel_rfl) (fun _ _ _ h => h) hS (by rfl) ?hy4x4 ?ry4x4
  case hy4x4 =>
    intro w9 s9
    clear s9
    go_simp
    try (with_reducible rfl)
  simp only [List.setIfInBounds_toArray, List.set_cons_zero, List.set_cons_succ]
  refine held_take (i := 5) 12 (v := ?vy5x5) rfl rfl (by kernel_rfl) (by kernel_rfl) (by kernel_rfl) (fun _ _ _ h => h) hS (by rfl) ?hy5x5 ?ry5x5
  case hy5x5 =>
    intro w9 s9
    have X9 := kept XW.out s9
    have c0 : w9.cell? ⟨w.heap.size, 0, none⟩ = some (.bool lf) := by rw [Go.Joins.cell_of_block X9]; rfl
    have c1 : w9.cell? ⟨w.heap.size, 1, none⟩ = some (.slice (some ⟨kb, ko, none⟩) lk ck) := by rw [Go.Joins.cell_of_block X9]; rfl
    have c2 : w9.cell? ⟨w.heap.size, 2, none⟩ = some (.slice av lv cv) := by rw [Go.Joins.cell_of_block X9]; rfl
    have c3 : w9.cell? ⟨w.heap.size, 3, none⟩ = some (.slice ac lc cc) := by rw [Go.Joins.cell_of_block X9]; rfl
    clear s9
    go_simp
    try (with_reducible rfl)
  simp only [List.setIfInBounds_toArray, List.set_cons_zero, List.set_cons_succ]
  refine held_take (i := 6) 13 (v := ?vy6x6) rfl rfl (by kernel_rfl) (by kernel_rfl) (by kernel_rfl) (fun _ _ _ h => h) hS (by rfl) ?hy6x6 ?ry6x6
  case hy6x6 =>
    intro w9 s9
    clear s9
    go_simp
    try (with_reducible rfl)
  simp only [List.setIfInBounds_toArray, List.set_cons_zero, List.set_cons_succ]
  refine held_take (i := 7) 14 (v := ?vy7x7) rfl rfl (by kernel_rfl) (by kernel_rfl) (by kernel_rfl) (fun _ _ _ h => h) hS (by rfl) ?hy7x7 ?ry7x7
  case hy7x7 =>
    intro w9 s9
    have X9 := kept XW.out s9
    have c0 : w9.cell? ⟨w.heap.size, 0, none⟩ = some (.bool lf) := by rw [Go.Joins.cell_of_block X9]; rfl
    have c1 : w9.cell? ⟨w.heap.size, 1, none⟩ = some (.slice (some ⟨kb, ko, none⟩) lk ck) := by rw [Go.Joins.cell_of_block X9]; rfl
    have c2 : w9.cell? ⟨w.heap.size, 2, none⟩ = some (.slice av lv cv) := by rw [Go.Joins.cell_of_block X9]; rfl
    have c3 : w9.cell? ⟨w.heap.size, 3, none⟩ = some (.slice ac lc cc) := by rw [Go.Joins.cell_of_block X9]; rfl
    clear s9
    go_simp
    try (with_reducible rfl)
  simp only [List.setIfInBounds_toArray, List.set_cons_zero, List.set_cons_succ]
  refine held_step (i := 8) rfl (by kernel_rfl) (fun K hK => ?_)
  have HK := Lib.hid hK
  clear hK
  go_simp
  go_wp2_with fail
  refine (LS.out _).mono ?_
  rintro e v2 ⟨rfl, b2⟩
  refine HK.out _ _ ?_ ?_
  · exact chain hS b2
  clear HK K
  try simp only [Act.put, List.setIfInBounds_toArray, List.set_cons_zero, List.set_cons_succ]
  have hS9 := chain hS b2
  clear hS
  have hS := hS9
  clear hS9
  clear b2
  refine held_take (i := 9) 16 (v := ?vy9x8) rfl rfl (by kernel_rfl) (by kernel_rfl) (by kernel_rfl) (fun _ _ _ h => h) hS (by rfl) ?hy9x8 ?ry9x8
  case hy9x8 =>
    intro w9 s9
    clear s9
    go_simp
    try (with_reducible rfl)
  simp only [List.setIfInBounds_toArray, List.set_cons_zero, List.set_cons_succ]
  refine held_take (i := 10) 17 (v := ?vy10x9) rfl rfl (by kernel_rfl) (by kernel_rfl) (by kernel_rfl) (fun _ _ _ h => h) hS (by rfl) ?hy10x9 ?ry10x9
  case hy10x9 =>
    intro w9 s9
    clear s9
    go_simp
    try (with_reducible rfl)
  simp only [List.setIfInBounds_toArray, List.set_cons_zero, List.set_cons_succ]
  refine wpAnyH_done (by kernel_rfl) ?_ _
  have H1 := Lib.hid hS
  clear hS
  have X2 := Lib.hid (kept XW.out H1.out)
  have Y1 := Lib.hid (kept Z1.out H1.out)
  have Y2 := Lib.hid (kept Z2.out H1.out)
  have B2 := Lib.hid (chain BW.out H1.out)
  clear XW Z1 Z2 BW H1
  have y0 : v2.cell? ⟨w.heap.size, 0, none⟩ = some (.bool lf) := by rw [Go.Joins.cell_of_block X2.out]; rfl
  have y1 : v2.cell? ⟨w.heap.size, 1, none⟩ = some (.slice (some ⟨kb, ko, none⟩) lk ck) := by rw [Go.Joins.cell_of_block X2.out]; rfl
  have y2 : v2.cell? ⟨w.heap.size, 2, none⟩ = some (.slice av lv cv) := by rw [Go.Joins.cell_of_block X2.out]; rfl
  have y3 : v2.cell? ⟨w.heap.size, 3, none⟩ = some (.slice ac lc cc) := by rw [Go.Joins.cell_of_block X2.out]; rfl
  go_wp2_with fail
  refine (CU.out _ B2.out).mono ?_
  rintro e v3 ⟨rfl, b3⟩
  have X3 := Lib.hid (kept X2.out b3)
  have Y3 := Lib.hid (kept Y1.out b3)
  have Z3 := Lib.hid (kept Y2.out b3)
  have B3 := Lib.hid (chain B2.out b3)
  have hlt3 : Hid (w.heap.size + 2 < v3.heap.size) := Lib.hid (Array.getElem?_eq_some_iff.1 Z3.out).1
  clear b3 X2 Y1 Y2 B2 y0 y1 y2 y3 CU
  go_wp2_with fail
  refine wp_region_held_drew (S := fun w' => Below (w.heap.size + 1) v3 w') (by kernel_rfl) (Below.refl (w.heap.size + 1) v3).drew (fun hS => ?_)
  refine held_take (i := 0) 22 (v := ?vz0x1) rfl rfl (by kernel_rfl) (by kernel_rfl) (by kernel_rfl) (fun _ _ _ h => h) hS (by rfl) ?hz0x1 ?rz0x1
  case hz0x1 =>
    intro w9 s9
    have X9 := (s9.block w.heap.size (by omega)).trans X3.out
    have c0 : w9.cell? ⟨w.heap.size, 0, none⟩ = some (.bool lf) := by rw [Go.Joins.cell_of_block X9]; rfl
    have c1 : w9.cell? ⟨w.heap.size, 1, none⟩ = some (.slice (some ⟨kb, ko, none⟩) lk ck) := by rw [Go.Joins.cell_of_block X9]; rfl
    have c2 : w9.cell? ⟨w.heap.size, 2, none⟩ = some (.slice av lv cv) := by rw [Go.Joins.cell_of_block X9]; rfl
    have c3 : w9.cell? ⟨w.heap.size, 3, none⟩ = some (.slice ac lc cc) := by rw [Go.Joins.cell_of_block X9]; rfl
    clear s9
    go_simp
    try (with_reducible rfl)
  simp only [List.setIfInBounds_toArray, List.set_cons_zero, List.set_cons_succ]
  refine held_take (i := 1) 23 (v := ?vz1x2) rfl rfl (by kernel_rfl) (by kernel_rfl) (by kernel_rfl) (fun _ _ _ h => h) hS (by rfl) ?hz1x2 ?rz1x2
  case hz1x2 =>
    intro w9 s9
    clear s9
    go_simp
    try (with_reducible rfl)
  simp only [List.setIfInBounds_toArray, List.set_cons_zero, List.set_cons_succ]
  refine held_take (i := 3) 25 (v := ?vz3x3) rfl rfl (by kernel_rfl) (by kernel_rfl) (by kernel_rfl) (fun _ _ _ h => h) hS (by rfl) ?hz3x3 ?rz3x3
  case hz3x3 =>
    intro w9 s9
    clear s9
    go_simp
    try (with_reducible rfl)
  simp only [List.setIfInBounds_toArray, List.set_cons_zero, List.set_cons_succ]
  refine held_take (i := 4) 26 (v := ?vz4x4) rfl rfl (by kernel_rfl) (by kernel_rfl) (by kernel_rfl) (fun _ _ _ h => h) hS (by rfl) ?hz4x4 ?rz4x4
  case hz4x4 =>
    intro w9 s9
    have X9 := (s9.block w.heap.size (by omega)).trans X3.out
    have c0 : w9.cell? ⟨w.heap.size, 0, none⟩ = some (.bool lf) := by rw [Go.Joins.cell_of_block X9]; rfl
    have c1 : w9.cell? ⟨w.heap.size, 1, none⟩ = some (.slice (some ⟨kb, ko, none⟩) lk ck) := by rw [Go.Joins.cell_of_block X9]; rfl
    have c2 : w9.cell? ⟨w.heap.size, 2, none⟩ = some (.slice av lv cv) := by rw [Go.Joins.cell_of_block X9]; rfl
    have c3 : w9.cell? ⟨w.heap.size, 3, none⟩ = some (.slice ac lc cc) := by rw [Go.Joins.cell_of_block X9]; rfl
    clear s9
    go_simp
    try (with_reducible rfl)
  simp only [List.setIfInBounds_toArray, List.set_cons_zero, List.set_cons_succ]
  refine held_take (i := 5) 27 (v := ?vz5x5) rfl rfl (by kernel_rfl) (by kernel_rfl) (by kernel_rfl) (fun _ _ _ h => h) hS (by rfl) ?hz5x5 ?rz5x5
  case hz5x5 =>
    intro w9 s9
    clear s9
    go_simp
    try (with_reducible rfl)
  simp only [List.setIfInBounds_toArray, List.set_cons_zero, List.set_cons_succ]
  refine held_take (i := 6) 28 (v := ?vz6x6) rfl rfl (by kernel_rfl) (by kernel_rfl) (by kernel_rfl) (fun _ _ _ h => h) hS (by rfl) ?hz6x6 ?rz6x6
  case hz6x6 =>
    intro w9 s9
    clear s9
    go_simp
    try (with_reducible rfl)
  simp only [List.setIfInBounds_toArray, List.set_cons_zero, List.set_cons_succ]
  refine held_take (i := 7) 29 (v := ?vz7x7) rfl rfl (by kernel_rfl) (by kernel_rfl) (by kernel_rfl) (fun _ _ _ h => h) hS (by rfl) ?hz7x7 ?rz7x7
  case hz7x7 =>
    intro w9 s9
    have c := FC.out _ (B3.out.trans (s9.mono (by omega)))
    clear s9
    go_simp
    try (with_reducible rfl)
  simp only [List.setIfInBounds_toArray, List.set_cons_zero, List.set_cons_succ]
  refine held_take (i := 8) 30 (v := ?vz8x8) rfl rfl (by kernel_rfl) (by kernel_rfl) (by kernel_rfl) (fun _ _ _ h => h) hS (by rfl) ?hz8x8 ?rz8x8
  case hz8x8 =>
    intro w9 s9
    have X9 := (s9.block w.heap.size (by omega)).trans X3.out
    have c0 : w9.cell? ⟨w.heap.size, 0, none⟩ = some (.bool lf) := by rw [Go.Joins.cell_of_block X9]; rfl
    have c1 : w9.cell? ⟨w.heap.size, 1, none⟩ = some (.slice (some ⟨kb, ko, none⟩) lk ck) := by rw [Go.Joins.cell_of_block X9]; rfl
    have c2 : w9.cell? ⟨w.heap.size, 2, none⟩ = some (.slice av lv cv) := by rw [Go.Joins.cell_of_block X9]; rfl
    have c3 : w9.cell? ⟨w.heap.size, 3, none⟩ = some (.slice ac lc cc) := by rw [Go.Joins.cell_of_block X9]; rfl
    clear s9
    go_simp
    try (with_reducible rfl)
  simp only [List.setIfInBounds_toArray, List.set_cons_zero, List.set_cons_succ]
  refine held_take (i := 9) 31 (v := ?vz9x9) rfl rfl (by kernel_rfl) (by kernel_rfl) (by kernel_rfl) (fun _ _ _ h => h) hS (by rfl) ?hz9x9 ?rz9x9
  case hz9x9 =>
    intro w9 s9
    clear s9
    go_simp
    try (with_reducible rfl)
  simp only [List.setIfInBounds_toArray, List.set_cons_zero, List.set_cons_succ]
  refine held_step (i := 2) rfl (by kernel_rfl) (fun K hK => ?_)
  have HK := Lib.hid hK
  clear hK
  go_simp
  go_wp2_with fail
  refine (AH.out _ (B3.out.trans (hS.mono (by omega)))).mono ?_
  rintro e u1 ⟨⟨xk, xv, xc, dk, dv, dc, rfl, hR1, q1, q2, q3⟩, b1⟩
  have q1 := fun x hx => Nat.le_trans hS.size (q1 x hx)
  have q2 := fun x hx => Nat.le_trans hS.size (q2 x hx)
  have q3 := fun x hx => Nat.le_trans hS.size (q3 x hx)
  simp only [nodV]
  refine HK.out _ _ ?_ ?_
  · exact hS.trans (b1.mono (show w.heap.size + 1 ≤ _ from by have := hlt3.out; have := hS.size; omega))
  clear HK K
  try simp only [Act.put, List.setIfInBounds_toArray, List.set_cons_zero, List.set_cons_succ]
  have hS9 := hS.trans (b1.mono (show w.heap.size + 1 ≤ _ from by have := hlt3.out; have := hS.size; omega))
  clear hS
  have hS := hS9
  clear hS9
  have R1 := Lib.hid hR1
  have Q1 := Lib.hid (And.intro q1 (And.intro q2 q3))
  have Y4 := Lib.hid (kept (show v3.drew.heap[w.heap.size + 1]? = _ from Y3.out) b1)
  have Z4 := Lib.hid (kept (show v3.drew.heap[w.heap.size + 2]? = _ from Z3.out) b1)
  clear b1 hR1 q1 q2 q3 Y3 Z3
  refine held_step (i := 10) rfl (by kernel_rfl) (fun K hK => ?_)
  have HK := Lib.hid hK
  clear hK
  go_simp
  go_wp2_with fail
  refine (BH.out _ (B3.out.trans (hS.mono (by omega)))).mono ?_
  rintro e u2 ⟨⟨yk, yv, yc, ek, ev, ec, rfl, hR2, q1, q2, q3⟩, b2⟩
  have q1 := fun x hx => Nat.le_trans hS.size (q1 x hx)
  have q2 := fun x hx => Nat.le_trans hS.size (q2 x hx)
  have q3 := fun x hx => Nat.le_trans hS.size (q3 x hx)
  simp only [nodV]
  refine HK.out _ _ ?_ ?_
  · exact hS.trans (b2.mono (show w.heap.size + 1 ≤ _ from by have := hlt3.out; have := hS.size; omega))
  clear HK K
  try simp only [Act.put, List.setIfInBounds_toArray, List.set_cons_zero, List.set_cons_succ]
  have hS9 := hS.trans (b2.mono (show w.heap.size + 1 ≤ _ from by have := hlt3.out; have := hS.size; omega))
  clear hS
  have hS := hS9
  clear hS9
  have R1' := Lib.hid (R1.out.below b2)
  have R2 := Lib.hid hR2
  have Q2 := Lib.hid (And.intro q1 (And.intro q2 q3))
  have Y5 := Lib.hid (kept Y4.out b2)
  have Z5 := Lib.hid (kept Z4.out b2)
  have L1 := Lib.hid b2.size
  clear b2 hR2 q1 q2 q3 Y4 Z4 R1
  have y0 : u2.cell? ⟨w.heap.size + 1, 0, none⟩ = some (.bool false) := by rw [Go.Joins.cell_of_block Y5.out]; rfl
  have y1 : u2.cell? ⟨w.heap.size + 1, 1, none⟩ = some (.slice none 0 0) := by rw [Go.Joins.cell_of_block Y5.out]; rfl
  have y2 : u2.cell? ⟨w.heap.size + 1, 2, none⟩ = some (.slice none 0 0) := by rw [Go.Joins.cell_of_block Y5.out]; rfl
  have y3 : u2.cell? ⟨w.heap.size + 1, 3, none⟩ = some (.slice none 0 0) := by rw [Go.Joins.cell_of_block Y5.out]; rfl
  have f0 := Go.Joins.unfrozen_of_block Y5.out 0
  have f1 := Go.Joins.unfrozen_of_block Y5.out 1
  have f2 := Go.Joins.unfrozen_of_block Y5.out 2
  have f3 := Go.Joins.unfrozen_of_block Y5.out 3
  refine held_step (i := 11) rfl (by kernel_rfl) (fun K hK => ?_)
  have HK := Lib.hid hK
  clear hK
  go_simp
  refine HK.out _ _ ?_ ?_
  · exact (((hS.setCell (Nat.le_refl _) _).setCell (Nat.le_refl _) _).setCell (Nat.le_refl _) _).setCell (Nat.le_refl _) _
  clear HK K
  try simp only [Act.put, List.setIfInBounds_toArray, List.set_cons_zero, List.set_cons_succ]
  have hne1 : ∀ i, w.heap.size + 2 ≠ (⟨w.heap.size + 1, i, none⟩ : Addr).block := fun i => by show w.heap.size + 2 ≠ w.heap.size + 1; omega
  have XA : ((((u2.setCell ⟨w.heap.size + 1, 0, none⟩ (.bool A.leaf)).setCell ⟨w.heap.size + 1, 1, none⟩ (.slice xk A.K.length dk)).setCell ⟨w.heap.size + 1, 2, none⟩ (.slice xv A.V.length dv)).setCell ⟨w.heap.size + 1, 3, none⟩ (.slice xc A.C.length dc)).heap[w.heap.size + 1]? = some (.cells #[.bool A.leaf, .slice xk A.K.length dk, .slice xv A.V.length dv, .slice xc A.C.length dc] 26) := by
    rw [heap_setCell_same _ _ 3 _ _ _ (heap_setCell_same _ _ 2 _ _ _ (heap_setCell_same _ _ 1 _ _ _ (heap_setCell_same _ _ 0 _ _ _ Y5.out)))]
    rfl
  have XZ : ((((u2.setCell ⟨w.heap.size + 1, 0, none⟩ (.bool A.leaf)).setCell ⟨w.heap.size + 1, 1, none⟩ (.slice xk A.K.length dk)).setCell ⟨w.heap.size + 1, 2, none⟩ (.slice xv A.V.length dv)).setCell ⟨w.heap.size + 1, 3, none⟩ (.slice xc A.C.length dc)).heap[w.heap.size + 2]? = some (.cells #[.bool false, .slice none 0 0, .slice none 0 0, .slice none 0 0] 26) := by
    rw [Below.heap_setCell _ _ _ _ (hne1 3), Below.heap_setCell _ _ _ _ (hne1 2), Below.heap_setCell _ _ _ _ (hne1 1), Below.heap_setCell _ _ _ _ (hne1 0)]
    exact Z5.out
  have RA : NodR ((((u2.setCell ⟨w.heap.size + 1, 0, none⟩ (.bool A.leaf)).setCell ⟨w.heap.size + 1, 1, none⟩ (.slice xk A.K.length dk)).setCell ⟨w.heap.size + 1, 2, none⟩ (.slice xv A.V.length dv)).setCell ⟨w.heap.size + 1, 3, none⟩ (.slice xc A.C.length dc)) A xk xv xc dk dv dc := R1'.out.set4 _ _ _ _ _ (fun x hx => by have := Q1.out.1 x hx; have := hlt3.out; omega) (fun x hx => by have := Q1.out.2.1 x hx; have := hlt3.out; omega) (fun x hx => by have := Q1.out.2.2 x hx; have := hlt3.out; omega)
  have RB : NodR ((((u2.setCell ⟨w.heap.size + 1, 0, none⟩ (.bool A.leaf)).setCell ⟨w.heap.size + 1, 1, none⟩ (.slice xk A.K.length dk)).setCell ⟨w.heap.size + 1, 2, none⟩ (.slice xv A.V.length dv)).setCell ⟨w.heap.size + 1, 3, none⟩ (.slice xc A.C.length dc)) B yk yv yc ek ev ec := R2.out.set4 _ _ _ _ _ (fun x hx => by have := Q2.out.1 x hx; have := hlt3.out; omega) (fun x hx => by have := Q2.out.2.1 x hx; have := hlt3.out; omega) (fun x hx => by have := Q2.out.2.2 x hx; have := hlt3.out; omega)
  have hS9 : Below (w.heap.size + 1) v3 ((((u2.setCell ⟨w.heap.size + 1, 0, none⟩ (.bool A.leaf)).setCell ⟨w.heap.size + 1, 1, none⟩ (.slice xk A.K.length dk)).setCell ⟨w.heap.size + 1, 2, none⟩ (.slice xv A.V.length dv)).setCell ⟨w.heap.size + 1, 3, none⟩ (.slice xc A.C.length dc)) := (((hS.setCell (Nat.le_refl _) _).setCell (Nat.le_refl _) _).setCell (Nat.le_refl _) _).setCell (Nat.le_refl _) _
  clear y0 y1 y2 y3 f0 f1 f2 f3 hne1 hS R1' R2 Y5 Z5
  obtain ⟨wz, hwz⟩ : ∃ wz, ((((u2.setCell ⟨w.heap.size + 1, 0, none⟩ (.bool A.leaf)).setCell ⟨w.heap.size + 1, 1, none⟩ (.slice xk A.K.length dk)).setCell ⟨w.heap.size + 1, 2, none⟩ (.slice xv A.V.length dv)).setCell ⟨w.heap.size + 1, 3, none⟩ (.slice xc A.C.length dc)) = wz := ⟨_, rfl⟩
  rw [hwz] at XA XZ RA RB hS9 ⊢
  clear hwz
  have hS := hS9
  clear hS9
  have XA' := Lib.hid XA
  have XZ' := Lib.hid XZ
  have RA' := Lib.hid RA
  have RB' := Lib.hid RB
  clear XA XZ RA RB
  have y0 : wz.cell? ⟨w.heap.size + 2, 0, none⟩ = some (.bool false) := by rw [Go.Joins.cell_of_block XZ'.out]; rfl
  have y1 : wz.cell? ⟨w.heap.size + 2, 1, none⟩ = some (.slice none 0 0) := by rw [Go.Joins.cell_of_block XZ'.out]; rfl
  have y2 : wz.cell? ⟨w.heap.size + 2, 2, none⟩ = some (.slice none 0 0) := by rw [Go.Joins.cell_of_block XZ'.out]; rfl
  have y3 : wz.cell? ⟨w.heap.size + 2, 3, none⟩ = some (.slice none 0 0) := by rw [Go.Joins.cell_of_block XZ'.out]; rfl
  have f0 := Go.Joins.unfrozen_of_block XZ'.out 0
  have f1 := Go.Joins.unfrozen_of_block XZ'.out 1
  have f2 := Go.Joins.unfrozen_of_block XZ'.out 2
  have f3 := Go.Joins.unfrozen_of_block XZ'.out 3
  refine held_take (i := 12) 3 (v := ?vz12x10) rfl rfl (by kernel_rfl) (by kernel_rfl) (by kernel_rfl) (fun _ _ _ h => h) hS (by rfl) ?hz12x10 ?rz12x10
  case hz12x10 =>
    intro w9 s9
    clear s9
    go_simp
    try (with_reducible rfl)
  simp only [List.setIfInBounds_toArray, List.set_cons_zero, List.set_cons_succ]
  refine held_step (i := 13) rfl (by kernel_rfl) (fun K hK => ?_)
  have HK := Lib.hid hK
  clear hK
  go_simp
  refine HK.out _ _ ?_ ?_
  · exact (((hS.setCell (by simp) _).setCell (by simp) _).setCell (by simp) _).setCell (by simp) _
  clear HK K
  try simp only [Act.put, List.setIfInBounds_toArray, List.set_cons_zero, List.set_cons_succ]
  have hne1 : ∀ i, w.heap.size + 1 ≠ (⟨w.heap.size + 2, i, none⟩ : Addr).block := fun i => by show w.heap.size + 1 ≠ w.heap.size + 2; omega
  have XB : ((((wz.setCell ⟨w.heap.size + 2, 0, none⟩ (.bool B.leaf)).setCell ⟨w.heap.size + 2, 1, none⟩ (.slice yk B.K.length ek)).setCell ⟨w.heap.size + 2, 2, none⟩ (.slice yv B.V.length ev)).setCell ⟨w.heap.size + 2, 3, none⟩ (.slice yc B.C.length ec)).heap[w.heap.size + 2]? = some (.cells #[.bool B.leaf, .slice yk B.K.length ek, .slice yv B.V.length ev, .slice yc B.C.length ec] 26) := by
    rw [heap_setCell_same _ _ 3 _ _ _ (heap_setCell_same _ _ 2 _ _ _ (heap_setCell_same _ _ 1 _ _ _ (heap_setCell_same _ _ 0 _ _ _ XZ'.out)))]
    rfl
  have XC : ((((wz.setCell ⟨w.heap.size + 2, 0, none⟩ (.bool B.leaf)).setCell ⟨w.heap.size + 2, 1, none⟩ (.slice yk B.K.length ek)).setCell ⟨w.heap.size + 2, 2, none⟩ (.slice yv B.V.length ev)).setCell ⟨w.heap.size + 2, 3, none⟩ (.slice yc B.C.length ec)).heap[w.heap.size + 1]? = some (.cells #[.bool A.leaf, .slice xk A.K.length dk, .slice xv A.V.length dv, .slice xc A.C.length dc] 26) := by
    rw [Below.heap_setCell _ _ _ _ (hne1 3), Below.heap_setCell _ _ _ _ (hne1 2), Below.heap_setCell _ _ _ _ (hne1 1), Below.heap_setCell _ _ _ _ (hne1 0)]
    exact XA'.out
  have RA : NodR ((((wz.setCell ⟨w.heap.size + 2, 0, none⟩ (.bool B.leaf)).setCell ⟨w.heap.size + 2, 1, none⟩ (.slice yk B.K.length ek)).setCell ⟨w.heap.size + 2, 2, none⟩ (.slice yv B.V.length ev)).setCell ⟨w.heap.size + 2, 3, none⟩ (.slice yc B.C.length ec)) A xk xv xc dk dv dc := RA'.out.set4 _ _ _ _ _ (fun x hx => by have := Q1.out.1 x hx; have := hlt3.out; omega) (fun x hx => by have := Q1.out.2.1 x hx; have := hlt3.out; omega) (fun x hx => by have := Q1.out.2.2 x hx; have := hlt3.out; omega)
  have RB : NodR ((((wz.setCell ⟨w.heap.size + 2, 0, none⟩ (.bool B.leaf)).setCell ⟨w.heap.size + 2, 1, none⟩ (.slice yk B.K.length ek)).setCell ⟨w.heap.size + 2, 2, none⟩ (.slice yv B.V.length ev)).setCell ⟨w.heap.size + 2, 3, none⟩ (.slice yc B.C.length ec)) B yk yv yc ek ev ec := RB'.out.set4 _ _ _ _ _ (fun x hx => by have := Q2.out.1 x hx; have := hlt3.out; omega) (fun x hx => by have := Q2.out.2.1 x hx; have := hlt3.out; omega) (fun x hx => by have := Q2.out.2.2 x hx; have := hlt3.out; omega)
  have hS9 : Below (w.heap.size + 1) v3 ((((wz.setCell ⟨w.heap.size + 2, 0, none⟩ (.bool B.leaf)).setCell ⟨w.heap.size + 2, 1, none⟩ (.slice yk B.K.length ek)).setCell ⟨w.heap.size + 2, 2, none⟩ (.slice yv B.V.length ev)).setCell ⟨w.heap.size + 2, 3, none⟩ (.slice yc B.C.length ec)) := (((hS.setCell (by simp) _).setCell (by simp) _).setCell (by simp) _).setCell (by simp) _
  clear y0 y1 y2 y3 f0 f1 f2 f3 hne1 hS
  obtain ⟨wy, hwy⟩ : ∃ wy, ((((wz.setCell ⟨w.heap.size + 2, 0, none⟩ (.bool B.leaf)).setCell ⟨w.heap.size + 2, 1, none⟩ (.slice yk B.K.length ek)).setCell ⟨w.heap.size + 2, 2, none⟩ (.slice yv B.V.length ev)).setCell ⟨w.heap.size + 2, 3, none⟩ (.slice yc B.C.length ec)) = wy := ⟨_, rfl⟩
  rw [hwy] at XB XC RA RB hS9 ⊢
  clear hwy
  have hS := hS9
  clear hS9
  refine held_take (i := 14) 5 (v := ?vz14x11) rfl rfl (by kernel_rfl) (by kernel_rfl) (by kernel_rfl) (fun _ _ _ h => h) hS (by rfl) ?hz14x11 ?rz14x11
  case hz14x11 =>
    intro w9 s9
    clear s9
    go_simp
    try (with_reducible rfl)
  simp only [List.setIfInBounds_toArray, List.set_cons_zero, List.set_cons_succ]
  refine wpAnyH_done (by kernel_rfl) ?_ _
  have FIN : Hid (Below w.heap.size w wy) := Lib.hid (B3.out.trans (hS.mono (by omega)))
  have z10 : wy.cell? ⟨w.heap.size + 1, 0, none⟩ = some (.bool A.leaf) := by rw [Go.Joins.cell_of_block XC]; rfl
  have z11 : wy.cell? ⟨w.heap.size + 1, 1, none⟩ = some (.slice xk A.K.length dk) := by rw [Go.Joins.cell_of_block XC]; rfl
  have z12 : wy.cell? ⟨w.heap.size + 1, 2, none⟩ = some (.slice xv A.V.length dv) := by rw [Go.Joins.cell_of_block XC]; rfl
  have z13 : wy.cell? ⟨w.heap.size + 1, 3, none⟩ = some (.slice xc A.C.length dc) := by rw [Go.Joins.cell_of_block XC]; rfl
  have z20 : wy.cell? ⟨w.heap.size + 2, 0, none⟩ = some (.bool B.leaf) := by rw [Go.Joins.cell_of_block XB]; rfl
  have z21 : wy.cell? ⟨w.heap.size + 2, 1, none⟩ = some (.slice yk B.K.length ek) := by rw [Go.Joins.cell_of_block XB]; rfl
  have z22 : wy.cell? ⟨w.heap.size + 2, 2, none⟩ = some (.slice yv B.V.length ev) := by rw [Go.Joins.cell_of_block XB]; rfl
  have z23 : wy.cell? ⟨w.heap.size + 2, 3, none⟩ = some (.slice yc B.C.length ec) := by rw [Go.Joins.cell_of_block XB]; rfl
  have RES : Hid (NodR wy A xk xv xc dk dv dc ∧ NodR wy B yk yv yc ek ev ec) := Lib.hid ⟨RA, RB⟩
  clear RA RB XC XB hS
  go_wp2_with fail
  exact bodyPost_ret (v := .tuple #[.agg #[.bool A.leaf, .slice xk A.K.length dk, .slice xv A.V.length dv, .slice xc A.C.length dc], .int .u64 mid, .agg #[.bool B.leaf, .slice yk B.K.length ek, .slice yv B.V.length ev, .slice yc B.C.length ec], .bool true]) (by simp [results, Try.results25, go_sem, z10, z11, z12, z13, z20, z21, z22, z23]) rfl ⟨⟨xk, xv, xc, dk, dv, dc, yk, yv, yc, ek, ev, ec, rfl, RES.out.1, RES.out.2⟩, FIN.out⟩
end Go.Proofs.Ytkdcoipbdkmieaa
