/-
  Package bailiwicklaw10: ref and nodes.
-/
import Derived.Test.YtkdcoipbdkmieaaNodeM
namespace Go.Proofs.Ytkdcoipbdkmieaa
open Go.RowKit
set_option linter.unusedVariables false
set_option linter.unusedSimpArgs false
set_option maxHeartbeats 1600000 in
theorem ref_is (n : Nod) (ak av ac : Option Addr) (ck cv cc : Nat) (w : World) :
    Calls Try.prog 18 #[nodV n ak av ac ck cv cc] w fun e w' => e = .returned (nodV n ak av ac ck cv cc) ∧ Below w.heap.size w w' := by
  unfold nodV
  generalize n.leaf = lf
  generalize n.K.length = lk
  generalize n.V.length = lv
  generalize n.C.length = lc
  go_enter Try.func18, Try.ntmps18
  go_wp2_with fail
  refine bodyPost_ret (v := .agg #[.bool lf, .slice ak lk ck, .slice av lv cv, .slice ac lc cc]) (by simp [results, Try.results18, go_sem]) rfl ⟨rfl, ?_⟩
  repeat' (first | exact Below.refl _ _ | refine Below.setCell ?_ (by simp) _ | refine Below.alloc ?_ (by simp) _)
set_option maxHeartbeats 3200000 in
set_option maxRecDepth 20000 in
theorem nodes_yes (n : Nod) (ak av ac bk bv bc : Option Addr) (ck cv cc dk dv dc : Nat) (w : World) (hA : NodR w n ak av ac ck cv cc) (hB : NodR w n bk bv bc dk dv dc) :
    Calls Try.prog 20 #[nodV n ak av ac ck cv cc, nodV n bk bv bc dk dv dc] w fun e w' => e = .returned (.bool true) ∧ Below w.heap.size w w' := by
  have RF := Lib.hid (fun w => ref_is n ak av ac ck cv cc w)
  have SM : ∀ w1, Below w.heap.size w w1 → Calls Try.prog 38 #[nodV n ak av ac ck cv cc, nodV n bk bv bc dk dv dc] w1 fun e w' => e = .returned (.bool true) ∧ Below w1.heap.size w1 w' := fun w1 hb => same_yes n ak av ac bk bv bc ck cv cc dk dv dc w1 (hA.below hb) (hB.below hb)
  clear hA hB
  obtain ⟨lf, K, V, C⟩ := n
  unfold nodV at *
  dsimp only at RF SM ⊢
  generalize K.length = lk at *
  generalize V.length = lv at *
  generalize C.length = lc at *
  obtain ⟨W, hW⟩ : ∃ W, (w.alloc (.cells #[.bool lf, .slice ak lk ck, .slice av lv cv, .slice ac lc cc] 26)).alloc (.cells #[.bool lf, .slice bk lk dk, .slice bv lv dv, .slice bc lc dc] 36) = W := ⟨_, rfl⟩
  have bel : Below w.heap.size w W := by rw [← hW]; exact ((Below.refl _ _).alloc (Nat.le_refl _) _).alloc (by simp) _
  have XA : W.heap[w.heap.size]? = some (.cells #[.bool lf, .slice ak lk ck, .slice av lv cv, .slice ac lc cc] 26) := by rw [← hW]; exact (heap_alloc_old _ _ (by simp)).trans (heap_alloc_new w _)
  have XB : W.heap[w.heap.size + 1]? = some (.cells #[.bool lf, .slice bk lk dk, .slice bv lv dv, .slice bc lc dc] 36) := by
    rw [← hW, ← show (w.alloc (.cells #[.bool lf, .slice ak lk ck, .slice av lv cv, .slice ac lc cc] 26)).heap.size = w.heap.size + 1 from by simp]; exact heap_alloc_new _ _
  have lta : w.heap.size < W.heap.size := (Array.getElem?_eq_some_iff.1 XA).1
  have ltb : w.heap.size + 1 < W.heap.size := (Array.getElem?_eq_some_iff.1 XB).1
  have a0 : W.cell? ⟨w.heap.size, 0, none⟩ = some (.bool lf) := by rw [Go.Joins.cell_of_block XA]; rfl
  have a1 : W.cell? ⟨w.heap.size, 1, none⟩ = some (.slice ak lk ck) := by rw [Go.Joins.cell_of_block XA]; rfl
  have a2 : W.cell? ⟨w.heap.size, 2, none⟩ = some (.slice av lv cv) := by rw [Go.Joins.cell_of_block XA]; rfl
  have a3 : W.cell? ⟨w.heap.size, 3, none⟩ = some (.slice ac lc cc) := by rw [Go.Joins.cell_of_block XA]; rfl
  have b0 : W.cell? ⟨w.heap.size + 1, 0, none⟩ = some (.bool lf) := by rw [Go.Joins.cell_of_block XB]; rfl
  have b1 : W.cell? ⟨w.heap.size + 1, 1, none⟩ = some (.slice bk lk dk) := by rw [Go.Joins.cell_of_block XB]; rfl
  have b2 : W.cell? ⟨w.heap.size + 1, 2, none⟩ = some (.slice bv lv dv) := by rw [Go.Joins.cell_of_block XB]; rfl
  have b3 : W.cell? ⟨w.heap.size + 1, 3, none⟩ = some (.slice bc lc dc) := by rw [Go.Joins.cell_of_block XB]; rfl
  have BEL := Lib.hid bel
  have SA := Lib.hid (fun w1 (hb : Below W.heap.size W w1) => SM w1 (chain bel hb))
  have HW := Lib.hid hW
  clear bel XA XB hW SM
  go_enter Try.func20, Try.ntmps20
  go_wp2_with fail
  rw [HW.out]
  refine wp_region_held_drew (S := fun w' => Below W.heap.size W w') (by kernel_rfl) (Below.refl W.heap.size W).drew (fun hS => ?_)
  refine held_take (i := 0) 5 (v := ?v0x1) rfl rfl (by kernel_rfl) (by kernel_rfl) (by kernel_rfl) (fun _ _ _ h => h) hS (by rfl) ?h0x1 ?r0x1
  case h0x1 =>
    intro w9 s9
    have ca0 : w9.cell? ⟨w.heap.size, 0, none⟩ = some (.bool lf) := (s9.cell (p := ⟨w.heap.size, 0, none⟩) lta).trans a0
    have ca1 : w9.cell? ⟨w.heap.size, 1, none⟩ = some (.slice ak lk ck) := (s9.cell (p := ⟨w.heap.size, 1, none⟩) lta).trans a1
    have ca2 : w9.cell? ⟨w.heap.size, 2, none⟩ = some (.slice av lv cv) := (s9.cell (p := ⟨w.heap.size, 2, none⟩) lta).trans a2
    have ca3 : w9.cell? ⟨w.heap.size, 3, none⟩ = some (.slice ac lc cc) := (s9.cell (p := ⟨w.heap.size, 3, none⟩) lta).trans a3
    clear s9
    go_simp
    try (with_reducible rfl)
  simp only [List.setIfInBounds_toArray, List.set_cons_zero, List.set_cons_succ]
  refine held_take (i := 2) 7 (v := ?v2x2) rfl rfl (by kernel_rfl) (by kernel_rfl) (by kernel_rfl) (fun _ _ _ h => h) hS (by rfl) ?h2x2 ?r2x2
  case h2x2 =>
    intro w9 s9
    have cb0 : w9.cell? ⟨w.heap.size + 1, 0, none⟩ = some (.bool lf) := (s9.cell (p := ⟨w.heap.size + 1, 0, none⟩) ltb).trans b0
    have cb1 : w9.cell? ⟨w.heap.size + 1, 1, none⟩ = some (.slice bk lk dk) := (s9.cell (p := ⟨w.heap.size + 1, 1, none⟩) ltb).trans b1
    have cb2 : w9.cell? ⟨w.heap.size + 1, 2, none⟩ = some (.slice bv lv dv) := (s9.cell (p := ⟨w.heap.size + 1, 2, none⟩) ltb).trans b2
    have cb3 : w9.cell? ⟨w.heap.size + 1, 3, none⟩ = some (.slice bc lc dc) := (s9.cell (p := ⟨w.heap.size + 1, 3, none⟩) ltb).trans b3
    clear s9
    go_simp
    try (with_reducible rfl)
  simp only [List.setIfInBounds_toArray, List.set_cons_zero, List.set_cons_succ]
  refine held_step (i := 1) rfl (by kernel_rfl) (fun K hK => ?_)
  have HK := Lib.hid hK
  clear hK
  go_simp
  go_wp2_with fail
  refine (RF.out _).mono ?_
  rintro e v5 ⟨rfl, b5⟩
  refine HK.out _ _ ?_ ?_
  · exact chain hS b5
  clear HK K
  try simp only [Act.put, List.setIfInBounds_toArray, List.set_cons_zero, List.set_cons_succ]
  have hS9 := chain hS b5
  clear hS
  have hS := hS9
  clear hS9
  refine held_step (i := 3) rfl (by kernel_rfl) (fun K hK => ?_)
  have HK := Lib.hid hK
  clear hK
  go_simp
  go_wp2_with fail
  refine (SA.out _ hS).mono ?_
  rintro e v6 ⟨rfl, b6⟩
  refine HK.out _ _ ?_ ?_
  · exact chain hS b6
  clear HK K
  try simp only [Act.put, List.setIfInBounds_toArray, List.set_cons_zero, List.set_cons_succ]
  have hS9 := chain hS b6
  clear hS
  have hS := hS9
  clear hS9
  refine held_take (i := 4) 4 (v := ?v4x3) rfl rfl (by kernel_rfl) (by kernel_rfl) (by kernel_rfl) (fun _ _ _ h => h) hS (by rfl) ?h4x3 ?r4x3
  case h4x3 =>
    intro w9 s9
    clear s9
    go_simp
    try (with_reducible rfl)
  simp only [List.setIfInBounds_toArray, List.set_cons_zero, List.set_cons_succ]
  refine wpAnyH_done (by kernel_rfl) ?_ _
  go_wp2_with fail
  go_ret
  exact ⟨rfl, chain BEL.out hS⟩
end Go.Proofs.Ytkdcoipbdkmieaa
