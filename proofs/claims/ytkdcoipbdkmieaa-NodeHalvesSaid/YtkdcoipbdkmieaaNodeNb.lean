/-
  Package bailiwicklaw10: nodes, of any two, by what Same tells of them.
-/
import Derived.Test.YtkdcoipbdkmieaaNodeHv
namespace Go.Proofs.Ytkdcoipbdkmieaa
open Go.RowKit
set_option linter.unusedVariables false
set_option linter.unusedSimpArgs false
set_option maxHeartbeats 3200000 in
set_option maxRecDepth 20000 in
theorem nodes_by (la lb v : Bool) (ak av ac bk bv bc : Option Addr) (ck cv cc dk dv dc lk lv lc mk mv mc : Nat) (w : World)
    (RF : Hid (∀ w, Calls Try.prog 18 #[.agg #[.bool la, .slice ak lk ck, .slice av lv cv, .slice ac lc cc]] w fun e w' => e = .returned (.agg #[.bool la, .slice ak lk ck, .slice av lv cv, .slice ac lc cc]) ∧ Below w.heap.size w w'))
    (SM : ∀ w1, Below w.heap.size w w1 → Calls Try.prog 38 #[.agg #[.bool la, .slice ak lk ck, .slice av lv cv, .slice ac lc cc], .agg #[.bool lb, .slice bk mk dk, .slice bv mv dv, .slice bc mc dc]] w1 fun e w' => e = .returned (.bool v) ∧ Below w1.heap.size w1 w') :
    Calls Try.prog 20 #[.agg #[.bool la, .slice ak lk ck, .slice av lv cv, .slice ac lc cc], .agg #[.bool lb, .slice bk mk dk, .slice bv mv dv, .slice bc mc dc]] w fun e w' => e = .returned (.bool v) ∧ Below w.heap.size w w' := by
  obtain ⟨W, hW⟩ : ∃ W, (w.alloc (.cells #[.bool la, .slice ak lk ck, .slice av lv cv, .slice ac lc cc] 26)).alloc (.cells #[.bool lb, .slice bk mk dk, .slice bv mv dv, .slice bc mc dc] 36) = W := ⟨_, rfl⟩
  have bel : Below w.heap.size w W := by rw [← hW]; exact ((Below.refl _ _).alloc (Nat.le_refl _) _).alloc (by simp) _
  have XA : W.heap[w.heap.size]? = some (.cells #[.bool la, .slice ak lk ck, .slice av lv cv, .slice ac lc cc] 26) := by rw [← hW]; exact (heap_alloc_old _ _ (by simp)).trans (heap_alloc_new w _)
  have XB : W.heap[w.heap.size + 1]? = some (.cells #[.bool lb, .slice bk mk dk, .slice bv mv dv, .slice bc mc dc] 36) := by
    rw [← hW, ← show (w.alloc (.cells #[.bool la, .slice ak lk ck, .slice av lv cv, .slice ac lc cc] 26)).heap.size = w.heap.size + 1 from by simp]; exact heap_alloc_new _ _
  have lta : w.heap.size < W.heap.size := (Array.getElem?_eq_some_iff.1 XA).1
  have ltb : w.heap.size + 1 < W.heap.size := (Array.getElem?_eq_some_iff.1 XB).1
  have a0 : W.cell? ⟨w.heap.size, 0, none⟩ = some (.bool la) := by rw [Go.Joins.cell_of_block XA]; rfl
  have a1 : W.cell? ⟨w.heap.size, 1, none⟩ = some (.slice ak lk ck) := by rw [Go.Joins.cell_of_block XA]; rfl
  have a2 : W.cell? ⟨w.heap.size, 2, none⟩ = some (.slice av lv cv) := by rw [Go.Joins.cell_of_block XA]; rfl
  have a3 : W.cell? ⟨w.heap.size, 3, none⟩ = some (.slice ac lc cc) := by rw [Go.Joins.cell_of_block XA]; rfl
  have b0 : W.cell? ⟨w.heap.size + 1, 0, none⟩ = some (.bool lb) := by rw [Go.Joins.cell_of_block XB]; rfl
  have b1 : W.cell? ⟨w.heap.size + 1, 1, none⟩ = some (.slice bk mk dk) := by rw [Go.Joins.cell_of_block XB]; rfl
  have b2 : W.cell? ⟨w.heap.size + 1, 2, none⟩ = some (.slice bv mv dv) := by rw [Go.Joins.cell_of_block XB]; rfl
  have b3 : W.cell? ⟨w.heap.size + 1, 3, none⟩ = some (.slice bc mc dc) := by rw [Go.Joins.cell_of_block XB]; rfl
  have BEL := Lib.hid bel
  have SA := Lib.hid (fun w1 (hb : Below W.heap.size W w1) => SM w1 (chain bel hb))
  have HW := Lib.hid hW
  clear bel XA XB hW SM
  go_enter Try.func20, Try.ntmps20
  go_wp2_with fail
  rw [HW.out]
  refine wp_region_held_drew (S := fun w' => Below W.heap.size W w') (by kernel_rfl) (Below.refl W.heap.size W).drew (fun hS => ?_)
  refine held_take (i := 0) 5 (v := ?v0x1) rfl rfl (by kernel_rfl) (by kernel_rfl) (by kernel_rfl) (fun _ _ _ h => h) hS (by rfl) ?h0x1 ?r0x1
  case h0x1 =>
    intro w9 s9
    have ca0 : w9.cell? ⟨w.heap.size, 0, none⟩ = some (.bool la) := (s9.cell (p := ⟨w.heap.size, 0, none⟩) lta).trans a0
    have ca1 : w9.cell? ⟨w.heap.size, 1, none⟩ = some (.slice ak lk ck) := (s9.cell (p := ⟨w.heap.size, 1, none⟩) lta).trans a1
    have ca2 : w9.cell? ⟨w.heap.size, 2, none⟩ = some (.slice av lv cv) := (s9.cell (p := ⟨w.heap.size, 2, none⟩) lta).trans a2
    have ca3 : w9.cell? ⟨w.heap.size, 3, none⟩ = some (.slice ac lc cc) := (s9.cell (p := ⟨w.heap.size, 3, none⟩) lta).trans a3
    clear s9
    go_simp
    try (with_reducible rfl)
  simp only [List.setIfInBounds_toArray, List.set_cons_zero, List.set_cons_succ]
  refine held_take (i := 2) 7 (v := ?v2x2) rfl rfl (by kernel_rfl) (by kernel_rfl) (by kernel_rfl) (fun _ _ _ h => h) hS (by rfl) ?h2x2 ?r2x2
  case h2x2 =>
    intro w9 s9
    have cb0 : w9.cell? ⟨w.heap.size + 1, 0, none⟩ = some (.bool lb) := (s9.cell (p := ⟨w.heap.size + 1, 0, none⟩) ltb).trans b0
    have cb1 : w9.cell? ⟨w.heap.size + 1, 1, none⟩ = some (.slice bk mk dk) := (s9.cell (p := ⟨w.heap.size + 1, 1, none⟩) ltb).trans b1
    have cb2 : w9.cell? ⟨w.heap.size + 1, 2, none⟩ = some (.slice bv mv dv) := (s9.cell (p := ⟨w.heap.size + 1, 2, none⟩) ltb).trans b2
    have cb3 : w9.cell? ⟨w.heap.size + 1, 3, none⟩ = some (.slice bc mc dc) := (s9.cell (p := ⟨w.heap.size + 1, 3, none⟩) ltb).trans b3
    clear s9
    go_simp
    try (with_reducible rfl)
  simp only [List.setIfInBounds_toArray, List.set_cons_zero, List.set_cons_succ]
  refine held_step (i := 1) rfl (by kernel_rfl) (fun K hK => ?_)
  have HK := Lib.hid hK
  clear hK
  go_simp
  go_wp2_with fail
  refine (RF.out _).mono ?_
  rintro e v5 ⟨rfl, b5⟩
  refine HK.out _ _ ?_ ?_
  · exact chain hS b5
  clear HK K
  try simp only [Act.put, List.setIfInBounds_toArray, List.set_cons_zero, List.set_cons_succ]
  have hS9 := chain hS b5
  clear hS
  have hS := hS9
  clear hS9
  refine held_step (i := 3) rfl (by kernel_rfl) (fun K hK => ?_)
  have HK := Lib.hid hK
  clear hK
  go_simp
  go_wp2_with fail
  refine (SA.out _ hS).mono ?_
  rintro e v6 ⟨rfl, b6⟩
  refine HK.out _ _ ?_ ?_
  · exact chain hS b6
  clear HK K
  try simp only [Act.put, List.setIfInBounds_toArray, List.set_cons_zero, List.set_cons_succ]
  have hS9 := chain hS b6
  clear hS
  have hS := hS9
  clear hS9
  refine held_take (i := 4) 4 (v := ?v4x3) rfl rfl (by kernel_rfl) (by kernel_rfl) (by kernel_rfl) (fun _ _ _ h => h) hS (by rfl) ?h4x3 ?r4x3
  case h4x3 =>
    intro w9 s9
    clear s9
    go_simp
    try (with_reducible rfl)
  simp only [List.setIfInBounds_toArray, List.set_cons_zero, List.set_cons_succ]
  refine wpAnyH_done (by kernel_rfl) ?_ _
  go_wp2_with fail
  go_ret
  exact ⟨rfl, chain BEL.out hS⟩
/-- A zero node and one that has keys. -/
theorem nodes_zero (n : Nod) (bk bv bc : Option Addr) (dk dv dc : Nat) (w : World) (hB : NodR w n bk bv bc dk dv dc) (hn : 0 < n.K.length) :
    Calls Try.prog 20 #[zeroV, nodV n bk bv bc dk dv dc] w fun e w' => e = .returned (.bool false) ∧ Below w.heap.size w w' :=
  nodes_by false n.leaf false none none none bk bv bc 0 0 0 dk dv dc 0 0 0 n.K.length n.V.length n.C.length w (Lib.hid fun w => ref_is ⟨false, [], [], []⟩ none none none 0 0 0 w) fun w1 hb => zero_same n bk bv bc dk dv dc w1 (hB.below hb) hn
end Go.Proofs.Ytkdcoipbdkmieaa
