/-
  Package node: ahead and behind: the walks.
-/
import Derived.Test.YtkdcoipbdkmieaaNodeQ
import Derived.IntWalk
namespace Go.Proofs.Ytkdcoipbdkmieaa
open Go.RowKit
set_option linter.unusedVariables false
set_option linter.unusedSimpArgs false
set_option maxHeartbeats 3200000 in
set_option maxRecDepth 20000 in
theorem ahead_leaf (ak av ac a1 a2 : Option Addr) (ck cv cc lk lc p : Nat) (X1 X2 : List Value) (w : World)
    (S1 : Hid (sliced ak 0 p ck 1 = .slice a1 p ck))
    (S2 : Hid (sliced av 0 p cv 1 = .slice a2 p cv))
    (C1 : Hid (∀ wx a, Below w.heap.size w wx → Rd wx a [.slice a1 p ck] → Calls Try.prog 35 #[.slice a 1 1] wx fun e w' => RowOut wx.heap.size 27 X1 e w' ∧ Below wx.heap.size wx w'))
    (C2 : Hid (∀ wx a, Below w.heap.size w wx → Rd wx a [.slice a2 p cv] → Calls Try.prog 36 #[.slice a 1 1] wx fun e w' => RowOut wx.heap.size 9 X2 e w' ∧ Below wx.heap.size wx w'))
    (h1 : p ≤ lk) (h4 : lk ≤ ck) (h5 : lk ≤ cv) (h6 : lk ≤ 1000) :
    Calls Try.prog 42 #[.agg #[.bool true, .slice ak lk ck, .slice av lk cv, .slice ac lc cc], .int .i64 (p : Int)] w fun e w' => NodOut w.heap.size X1 X2 e w' ∧ Below w.heap.size w w' := by
  have i0 : (0 : Int) ≤ (p : Int) := by omega
  have i1 : (p : Int) ≤ 1000 := by omega
  have i2 : (p : Int) ≤ (ck : Int) := by omega
  have i3 : (p : Int) ≤ (lk : Int) := by omega
  have hw1 : Hid (IntKind.i64.wrap ((p : Int) + 1) = (p : Int) + 1) := Lib.hid (IntWalk.i64_in _ (by omega))
  have hw2 : Hid (IntKind.i64.wrap ((p : Int) + 2) = (p : Int) + 2) := Lib.hid (IntWalk.i64_in _ (by omega))
  have i6 : (p : Int) ≤ (cv : Int) := by omega
  go_enter Try.func42, Try.ntmps42
  go_wp2_with fail
  have b1 : Below ((w.alloc (.cells #[.bool true, .slice ak lk ck, .slice av lk cv, .slice ac lc cc] 26)).alloc (.cells #[.bool false, .slice none 0 0, .slice none 0 0, .slice none 0 0] 26)).heap.size ((w.alloc (.cells #[.bool true, .slice ak lk ck, .slice av lk cv, .slice ac lc cc] 26)).alloc (.cells #[.bool false, .slice none 0 0, .slice none 0 0, .slice none 0 0] 26)) ((w.alloc (.cells #[.bool true, .slice ak lk ck, .slice av lk cv, .slice ac lc cc] 26)).alloc (.cells #[.bool false, .slice none 0 0, .slice none 0 0, .slice none 0 0] 26)) := Below.refl _ _
  obtain ⟨w2, hw2⟩ : ∃ w2, (w.alloc (.cells #[.bool true, .slice ak lk ck, .slice av lk cv, .slice ac lc cc] 26)).alloc (.cells #[.bool false, .slice none 0 0, .slice none 0 0, .slice none 0 0] 26) = w2 := ⟨_, rfl⟩
  rw [hw2]
  have b1 : Below ((w.alloc (.cells #[.bool true, .slice ak lk ck, .slice av lk cv, .slice ac lc cc] 26)).alloc (.cells #[.bool false, .slice none 0 0, .slice none 0 0, .slice none 0 0] 26)).heap.size ((w.alloc (.cells #[.bool true, .slice ak lk ck, .slice av lk cv, .slice ac lc cc] 26)).alloc (.cells #[.bool false, .slice none 0 0, .slice none 0 0, .slice none 0 0] 26)) w2 := by rw [hw2]; exact Below.refl _ _
  clear hw2
  have X1' := kept (heap_alloc_new (w.alloc _) _) b1
  have Y1' := kept (show ((w.alloc (.cells #[.bool true, .slice ak lk ck, .slice av lk cv, .slice ac lc cc] 26)).alloc (.cells #[.bool false, .slice none 0 0, .slice none 0 0, .slice none 0 0] 26)).heap[w.heap.size]? = some (.cells #[.bool true, .slice ak lk ck, .slice av lk cv, .slice ac lc cc] 26) from (heap_alloc_old _ _ (by simp)).trans (heap_alloc_new w _)) b1
  have B1 : Below w.heap.size w w2 := (((Below.refl _ _).alloc (Nat.le_refl _) _).alloc (by simp) _).trans (b1.mono (by simp; omega))
  rw [show (w.alloc (.cells #[.bool true, .slice ak lk ck, .slice av lk cv, .slice ac lc cc] 26)).heap.size = w.heap.size + 1 from by simp] at X1'
  have lt0 : w.heap.size < w2.heap.size := (Array.getElem?_eq_some_iff.1 Y1').1
  have c0' : w2.cell? ⟨w.heap.size, 0, none⟩ = some (.bool true) := by rw [Go.Joins.cell_of_block Y1']; rfl
  have c1 : w2.cell? ⟨w.heap.size, 1, none⟩ = some (.slice ak lk ck) := by rw [Go.Joins.cell_of_block Y1']; rfl
  have c2 : w2.cell? ⟨w.heap.size, 2, none⟩ = some (.slice av lk cv) := by rw [Go.Joins.cell_of_block Y1']; rfl
  have c3 : w2.cell? ⟨w.heap.size, 3, none⟩ = some (.slice ac lc cc) := by rw [Go.Joins.cell_of_block Y1']; rfl
  have X := Lib.hid X1'
  have B2 := Lib.hid B1
  clear b1 X1' Y1' B1
  refine region_kit 13 34 [eqV (.pointer (some ⟨w.heap.size, 1, none⟩)), eqV (.slice ak lk ck), eqV (.int .i64 (p : Int)), eqV (.slice a1 p ck), lstV [.slice a1 p ck], rdFV w2.heap.size X1, eqV (.pointer (some ⟨w.heap.size, 2, none⟩)), eqV (.slice av lk cv), eqV (.int .i64 (p : Int)), eqV (.slice a2 p cv), lstV [.slice a2 p cv], rdFV w2.heap.size X2, nodSP w2.heap.size X1 X2, anyV] (by kernel_rfl) (by kernel_rfl) (by rfl) ?owes ?ends
  case owes =>
    refine OwesAll.cons (k := 0) ?_ ?_
    · intro o ho a wx hS hold hdep K hK
      simp only [List.getElem?_toArray, List.getElem?_cons_succ, List.getElem?_cons_zero, Option.some.injEq] at ho
      subst ho
      have HK := Lib.hid hK
      clear hK
      have d2 : a.tmps.getD 2 undef = .pointer (some ⟨w.heap.size, 0, none⟩) := hold 2 (unset_of (by kernel_rfl))
      clear hold hdep
      rw [Array.getD_eq_getD_getElem?] at d2
      rw [if_pos (by rfl)]
      go_simp
      exact HK.out _ _ rfl (Below.refl _ _)
    refine OwesAll.cons (k := 1) ?_ ?_
    · intro o ho a wx hS hold hdep K hK
      simp only [List.getElem?_toArray, List.getElem?_cons_succ, List.getElem?_cons_zero, Option.some.injEq] at ho
      subst ho
      have HK := Lib.hid hK
      clear hK
      have d7 : a.tmps.getD 7 undef = .pointer (some ⟨w.heap.size, 1, none⟩) := dep_at hdep 0 rfl rfl (by kernel_rfl)
      clear hold hdep
      rw [Array.getD_eq_getD_getElem?] at d7
      rw [if_pos (by rfl)]
      have c0 : wx.cell? ⟨w.heap.size, 1, none⟩ = some (.slice ak lk ck) := (hS.cell (p := ⟨w.heap.size, 1, none⟩) lt0).trans c1
      go_simp
      exact HK.out _ _ rfl (Below.refl _ _)
    refine OwesAll.cons (k := 2) ?_ ?_
    · intro o ho a wx hS hold hdep K hK
      simp only [List.getElem?_toArray, List.getElem?_cons_succ, List.getElem?_cons_zero, Option.some.injEq] at ho
      subst ho
      have HK := Lib.hid hK
      clear hK
      have d1 : a.tmps.getD 1 undef = .int .i64 (p : Int) := hold 1 (unset_of (by kernel_rfl))
      clear hold hdep
      rw [Array.getD_eq_getD_getElem?] at d1
      rw [if_pos (by rfl)]
      go_simp
      exact HK.out _ _ rfl (Below.refl _ _)
    refine OwesAll.cons (k := 3) ?_ ?_
    · intro o ho a wx hS hold hdep K hK
      simp only [List.getElem?_toArray, List.getElem?_cons_succ, List.getElem?_cons_zero, Option.some.injEq] at ho
      subst ho
      have HK := Lib.hid hK
      clear hK
      have d8 : a.tmps.getD 8 undef = .slice ak lk ck := dep_at hdep 1 rfl rfl (by kernel_rfl)
      have d9 : a.tmps.getD 9 undef = .int .i64 (p : Int) := dep_at hdep 2 rfl rfl (by kernel_rfl)
      clear hold hdep
      rw [Array.getD_eq_getD_getElem?] at d8
      rw [Array.getD_eq_getD_getElem?] at d9
      rw [if_pos (by rfl)]
      go_simp
      refine HK.out _ _ ?_ (Below.refl _ _)
      show _ = _
      rw [← S1.out]
      simp [sliced, add0, Addr.add]
    refine OwesAll.cons (k := 4) ?_ ?_
    · intro o ho a wx hS hold hdep K hK
      simp only [List.getElem?_toArray, List.getElem?_cons_succ, List.getElem?_cons_zero, Option.some.injEq] at ho
      subst ho
      have HK := Lib.hid hK
      clear hK
      have d10 : a.tmps.getD 10 undef = .slice a1 p ck := dep_at hdep 3 rfl rfl (by kernel_rfl)
      clear hold hdep
      rw [Array.getD_eq_getD_getElem?] at d10
      rw [if_pos (by rfl)]
      go_simp
      exact HK.out _ _ ⟨_, rfl, Rd.made _ _ _⟩ (below_made _ _)
    refine OwesAll.cons (k := 5) ?_ ?_
    · intro o ho a wx hS hold hdep K hK
      simp only [List.getElem?_toArray, List.getElem?_cons_succ, List.getElem?_cons_zero, Option.some.injEq] at ho
      subst ho
      have HK := Lib.hid hK
      clear hK
      obtain ⟨a11, d11, r11⟩ : ∃ a', a.tmps.getD 11 undef = .slice a' 1 1 ∧ Rd wx a' [.slice a1 p ck] := dep_at hdep 4 rfl rfl (by kernel_rfl)
      clear hold hdep
      rw [Array.getD_eq_getD_getElem?] at d11
      rw [if_pos (by rfl)]
      have CA := C1.out wx a11 (chain B2.out hS) r11
      clear r11
      go_simp
      go_wp2_with fail
      refine CA.mono ?_
      rintro e w9 ⟨⟨v9, rfl, h9⟩, b9⟩
      exact HK.out _ _ (out_rdFV h9 hS.size) b9
    refine OwesAll.cons (k := 6) ?_ ?_
    · intro o ho a wx hS hold hdep K hK
      simp only [List.getElem?_toArray, List.getElem?_cons_succ, List.getElem?_cons_zero, Option.some.injEq] at ho
      subst ho
      have HK := Lib.hid hK
      clear hK
      have d2 : a.tmps.getD 2 undef = .pointer (some ⟨w.heap.size, 0, none⟩) := hold 2 (unset_of (by kernel_rfl))
      clear hold hdep
      rw [Array.getD_eq_getD_getElem?] at d2
      rw [if_pos (by rfl)]
      go_simp
      exact HK.out _ _ rfl (Below.refl _ _)
    refine OwesAll.cons (k := 7) ?_ ?_
    · intro o ho a wx hS hold hdep K hK
      simp only [List.getElem?_toArray, List.getElem?_cons_succ, List.getElem?_cons_zero, Option.some.injEq] at ho
      subst ho
      have HK := Lib.hid hK
      clear hK
      have d13 : a.tmps.getD 13 undef = .pointer (some ⟨w.heap.size, 2, none⟩) := dep_at hdep 6 rfl rfl (by kernel_rfl)
      clear hold hdep
      rw [Array.getD_eq_getD_getElem?] at d13
      rw [if_pos (by rfl)]
      have c0 : wx.cell? ⟨w.heap.size, 2, none⟩ = some (.slice av lk cv) := (hS.cell (p := ⟨w.heap.size, 2, none⟩) lt0).trans c2
      go_simp
      exact HK.out _ _ rfl (Below.refl _ _)
    refine OwesAll.cons (k := 8) ?_ ?_
    · intro o ho a wx hS hold hdep K hK
      simp only [List.getElem?_toArray, List.getElem?_cons_succ, List.getElem?_cons_zero, Option.some.injEq] at ho
      subst ho
      have HK := Lib.hid hK
      clear hK
      have d1 : a.tmps.getD 1 undef = .int .i64 (p : Int) := hold 1 (unset_of (by kernel_rfl))
      clear hold hdep
      rw [Array.getD_eq_getD_getElem?] at d1
      rw [if_pos (by rfl)]
      go_simp
      exact HK.out _ _ rfl (Below.refl _ _)
    refine OwesAll.cons (k := 9) ?_ ?_
    · intro o ho a wx hS hold hdep K hK
      simp only [List.getElem?_toArray, List.getElem?_cons_succ, List.getElem?_cons_zero, Option.some.injEq] at ho
      subst ho
      have HK := Lib.hid hK
      clear hK
      have d14 : a.tmps.getD 14 undef = .slice av lk cv := dep_at hdep 7 rfl rfl (by kernel_rfl)
      have d15 : a.tmps.getD 15 undef = .int .i64 (p : Int) := dep_at hdep 8 rfl rfl (by kernel_rfl)
      clear hold hdep
      rw [Array.getD_eq_getD_getElem?] at d14
      rw [Array.getD_eq_getD_getElem?] at d15
      rw [if_pos (by rfl)]
      go_simp
      refine HK.out _ _ ?_ (Below.refl _ _)
      show _ = _
      rw [← S2.out]
      simp [sliced, add0, Addr.add]
    refine OwesAll.cons (k := 10) ?_ ?_
    · intro o ho a wx hS hold hdep K hK
      simp only [List.getElem?_toArray, List.getElem?_cons_succ, List.getElem?_cons_zero, Option.some.injEq] at ho
      subst ho
      have HK := Lib.hid hK
      clear hK
      have d16 : a.tmps.getD 16 undef = .slice a2 p cv := dep_at hdep 9 rfl rfl (by kernel_rfl)
      clear hold hdep
      rw [Array.getD_eq_getD_getElem?] at d16
      rw [if_pos (by rfl)]
      go_simp
      exact HK.out _ _ ⟨_, rfl, Rd.made _ _ _⟩ (below_made _ _)
    refine OwesAll.cons (k := 11) ?_ ?_
    · intro o ho a wx hS hold hdep K hK
      simp only [List.getElem?_toArray, List.getElem?_cons_succ, List.getElem?_cons_zero, Option.some.injEq] at ho
      subst ho
      have HK := Lib.hid hK
      clear hK
      obtain ⟨a17, d17, r17⟩ : ∃ a', a.tmps.getD 17 undef = .slice a' 1 1 ∧ Rd wx a' [.slice a2 p cv] := dep_at hdep 10 rfl rfl (by kernel_rfl)
      clear hold hdep
      rw [Array.getD_eq_getD_getElem?] at d17
      rw [if_pos (by rfl)]
      have CA := C2.out wx a17 (chain B2.out hS) r17
      clear r17
      go_simp
      go_wp2_with fail
      refine CA.mono ?_
      rintro e w9 ⟨⟨v9, rfl, h9⟩, b9⟩
      exact HK.out _ _ (out_rdFV h9 hS.size) b9
    refine OwesAll.cons (k := 12) ?_ ?_
    · intro o ho a wx hS hold hdep K hK
      simp only [List.getElem?_toArray, List.getElem?_cons_succ, List.getElem?_cons_zero, Option.some.injEq] at ho
      subst ho
      have HK := Lib.hid hK
      clear hK
      obtain ⟨a12, c12, d12, r12, l12, m12, n12⟩ : ∃ a' c', a.tmps.getD 12 undef = .slice a' X1.length c' ∧ Rd wx a' X1 ∧ X1.length ≤ c' ∧ c' ≤ maxLen ∧ ∀ x, a' = some x → w2.heap.size ≤ x.block := dep_at hdep 5 rfl rfl (by kernel_rfl)
      obtain ⟨a18, c18, d18, r18, l18, m18, n18⟩ : ∃ a' c', a.tmps.getD 18 undef = .slice a' X2.length c' ∧ Rd wx a' X2 ∧ X2.length ≤ c' ∧ c' ≤ maxLen ∧ ∀ x, a' = some x → w2.heap.size ≤ x.block := dep_at hdep 11 rfl rfl (by kernel_rfl)
      clear hold hdep
      rw [Array.getD_eq_getD_getElem?] at d12
      rw [Array.getD_eq_getD_getElem?] at d18
      rw [if_pos (by rfl)]
      go_simp
      exact HK.out _ _ ⟨_, _, _, _, rfl, r12, r18, l12, m12, l18, m18, n12, n18⟩ (Below.refl _ _)
    refine OwesAll.skip (f := 13) ?_
    exact OwesAll.nil
  case ends =>
    intro a wx hS hsz hdf hold hdone
    simp only [List.getElem?_toArray, List.getElem?_cons_succ, List.getElem?_cons_zero]
    intro K hK
    have HK := Lib.hid hK
    clear hK
    obtain ⟨xa, xb, xc, xd, dB, q1, q2, q3, q4, q5, q6, q7, q8⟩ : ∃ xa xb xc xd, a.tmps.getD 19 undef = .agg #[.bool true, .slice xa X1.length xc, .slice xb X2.length xd, .slice none 0 0] ∧ Rd wx xa X1 ∧ Rd wx xb X2 ∧ X1.length ≤ xc ∧ xc ≤ maxLen ∧ X2.length ≤ xd ∧ xd ≤ maxLen ∧ (∀ x, xa = some x → w2.heap.size ≤ x.block) ∧ ∀ x, xb = some x → w2.heap.size ≤ x.block := hdone 12 _ 19 rfl (by decide) rfl
    have dR : a.tmps.getD 4 undef = .pointer (some ⟨w.heap.size + 1, 0, none⟩) := hold 4 (unset_of (by kernel_rfl))
    have hdf' : a.defers = [] := hdf
    clear hold hdone hsz hdf
    rw [Array.getD_eq_getD_getElem?] at dB dR
    have XB := kept X.out hS
    have y0 : wx.cell? ⟨w.heap.size + 1, 0, none⟩ = some (.bool false) := by rw [Go.Joins.cell_of_block XB]; rfl
    have y1 : wx.cell? ⟨w.heap.size + 1, 1, none⟩ = some (.slice none 0 0) := by rw [Go.Joins.cell_of_block XB]; rfl
    have y2 : wx.cell? ⟨w.heap.size + 1, 2, none⟩ = some (.slice none 0 0) := by rw [Go.Joins.cell_of_block XB]; rfl
    have y3 : wx.cell? ⟨w.heap.size + 1, 3, none⟩ = some (.slice none 0 0) := by rw [Go.Joins.cell_of_block XB]; rfl
    have f0 := Go.Joins.unfrozen_of_block XB 0
    have f1 := Go.Joins.unfrozen_of_block XB 1
    have f2 := Go.Joins.unfrozen_of_block XB 2
    have f3 := Go.Joins.unfrozen_of_block XB 3
    rw [if_pos (by rfl)]
    go_simp
    refine HK.out _ _ ?_
    have B9 : Below w.heap.size w ((((wx.setCell ⟨w.heap.size + 1, 0, none⟩ (.bool true)).setCell ⟨w.heap.size + 1, 1, none⟩ (.slice xa X1.length xc)).setCell ⟨w.heap.size + 1, 2, none⟩ (.slice xb X2.length xd)).setCell ⟨w.heap.size + 1, 3, none⟩ (.slice none 0 0)) :=
      ((((chain B2.out hS).setCell (by simp) _).setCell (by simp) _).setCell (by simp) _).setCell (by simp) _
    clear y0 y1 y2 y3 f0 f1 f2 f3 HK K
    go_wp2_with fail
    have lt1 : w.heap.size + 1 < w2.heap.size := (Array.getElem?_eq_some_iff.1 X.out).1
    have FIN : Hid (NodOut w.heap.size X1 X2 (.returned (.agg #[.bool true, .slice xa X1.length xc, .slice xb X2.length xd, .slice none 0 0])) ((((wx.setCell ⟨w.heap.size + 1, 0, none⟩ (.bool true)).setCell ⟨w.heap.size + 1, 1, none⟩ (.slice xa X1.length xc)).setCell ⟨w.heap.size + 1, 2, none⟩ (.slice xb X2.length xd)).setCell ⟨w.heap.size + 1, 3, none⟩ (.slice none 0 0))) :=
      Lib.hid ⟨_, rfl, xa, xb, xc, xd, rfl, q1.set4 _ _ _ _ _ (fun x hx => Nat.lt_of_lt_of_le lt1 (q7 x hx)), q2.set4 _ _ _ _ _ (fun x hx => Nat.lt_of_lt_of_le lt1 (q8 x hx)), q3, q4, q5, q6, fun x hx => Nat.le_trans (Nat.le_of_lt lt0) (q7 x hx), fun x hx => Nat.le_trans (Nat.le_of_lt lt0) (q8 x hx)⟩
    have XR : ((((wx.setCell ⟨w.heap.size + 1, 0, none⟩ (.bool true)).setCell ⟨w.heap.size + 1, 1, none⟩ (.slice xa X1.length xc)).setCell ⟨w.heap.size + 1, 2, none⟩ (.slice xb X2.length xd)).setCell ⟨w.heap.size + 1, 3, none⟩ (.slice none 0 0)).heap[w.heap.size + 1]? = some (.cells #[.bool true, .slice xa X1.length xc, .slice xb X2.length xd, .slice none 0 0] 26) := by
      rw [heap_setCell_same _ _ 3 _ _ _ (heap_setCell_same _ _ 2 _ _ _ (heap_setCell_same _ _ 1 _ _ _ (heap_setCell_same _ _ 0 _ _ _ XB)))]
      rfl
    generalize ((((wx.setCell ⟨w.heap.size + 1, 0, none⟩ (.bool true)).setCell ⟨w.heap.size + 1, 1, none⟩ (.slice xa X1.length xc)).setCell ⟨w.heap.size + 1, 2, none⟩ (.slice xb X2.length xd)).setCell ⟨w.heap.size + 1, 3, none⟩ (.slice none 0 0)) = wz at *
    have z0 : wz.cell? ⟨w.heap.size + 1, 0, none⟩ = some (.bool true) := by rw [Go.Joins.cell_of_block XR]; rfl
    have z1 : wz.cell? ⟨w.heap.size + 1, 1, none⟩ = some (.slice xa X1.length xc) := by rw [Go.Joins.cell_of_block XR]; rfl
    have z2 : wz.cell? ⟨w.heap.size + 1, 2, none⟩ = some (.slice xb X2.length xd) := by rw [Go.Joins.cell_of_block XR]; rfl
    have z3 : wz.cell? ⟨w.heap.size + 1, 3, none⟩ = some (.slice none 0 0) := by rw [Go.Joins.cell_of_block XR]; rfl
    exact bodyPost_ret (v := .agg #[.bool true, .slice xa X1.length xc, .slice xb X2.length xd, .slice none 0 0]) (by simp [results, Try.results42, go_sem, dR, z0, z1, z2, z3]) hdf' ⟨FIN.out, B9⟩
set_option maxHeartbeats 3200000 in
set_option maxRecDepth 20000 in
theorem ahead_branch (ak av ac a1 a2 : Option Addr) (ck cv cc lk lv p : Nat) (X1 X2 : List Value) (w : World)
    (S1 : Hid (sliced ak 0 p ck 1 = .slice a1 p ck))
    (S2 : Hid (sliced ac 0 (p + 1) cc 1 = .slice a2 (p + 1) cc))
    (C1 : Hid (∀ wx a, Below w.heap.size w wx → Rd wx a [.slice a1 p ck] → Calls Try.prog 35 #[.slice a 1 1] wx fun e w' => RowOut wx.heap.size 27 X1 e w' ∧ Below wx.heap.size wx w'))
    (C2 : Hid (∀ wx a, Below w.heap.size w wx → Rd wx a [.slice a2 (p + 1) cc] → Calls Try.prog 37 #[.slice a 1 1] wx fun e w' => RowOut wx.heap.size 3 X2 e w' ∧ Below wx.heap.size wx w'))
    (h1 : p ≤ lk) (h4 : lk ≤ ck) (h5 : lk + 1 ≤ cc) (h6 : lk ≤ 1000) :
    Calls Try.prog 42 #[.agg #[.bool false, .slice ak lk ck, .slice av lv cv, .slice ac (lk + 1) cc], .int .i64 (p : Int)] w fun e w' => NodOuB w.heap.size X1 X2 e w' ∧ Below w.heap.size w w' := by
  have i0 : (0 : Int) ≤ (p : Int) := by omega
  have i1 : (p : Int) ≤ 1000 := by omega
  have i2 : (p : Int) ≤ (ck : Int) := by omega
  have i3 : (p : Int) ≤ (lk : Int) := by omega
  have hw1 : Hid (IntKind.i64.wrap ((p : Int) + 1) = (p : Int) + 1) := Lib.hid (IntWalk.i64_in _ (by omega))
  have hw2 : Hid (IntKind.i64.wrap ((p : Int) + 2) = (p : Int) + 2) := Lib.hid (IntWalk.i64_in _ (by omega))
  have i6 : (p : Int) + 1 ≤ (cc : Int) := by omega
  go_enter Try.func42, Try.ntmps42
  go_wp2_with fail
  have b1 : Below ((w.alloc (.cells #[.bool false, .slice ak lk ck, .slice av lv cv, .slice ac (lk + 1) cc] 26)).alloc (.cells #[.bool false, .slice none 0 0, .slice none 0 0, .slice none 0 0] 26)).heap.size ((w.alloc (.cells #[.bool false, .slice ak lk ck, .slice av lv cv, .slice ac (lk + 1) cc] 26)).alloc (.cells #[.bool false, .slice none 0 0, .slice none 0 0, .slice none 0 0] 26)) ((w.alloc (.cells #[.bool false, .slice ak lk ck, .slice av lv cv, .slice ac (lk + 1) cc] 26)).alloc (.cells #[.bool false, .slice none 0 0, .slice none 0 0, .slice none 0 0] 26)) := Below.refl _ _
  obtain ⟨w2, hw2⟩ : ∃ w2, (w.alloc (.cells #[.bool false, .slice ak lk ck, .slice av lv cv, .slice ac (lk + 1) cc] 26)).alloc (.cells #[.bool false, .slice none 0 0, .slice none 0 0, .slice none 0 0] 26) = w2 := ⟨_, rfl⟩
  rw [hw2]
  have b1 : Below ((w.alloc (.cells #[.bool false, .slice ak lk ck, .slice av lv cv, .slice ac (lk + 1) cc] 26)).alloc (.cells #[.bool false, .slice none 0 0, .slice none 0 0, .slice none 0 0] 26)).heap.size ((w.alloc (.cells #[.bool false, .slice ak lk ck, .slice av lv cv, .slice ac (lk + 1) cc] 26)).alloc (.cells #[.bool false, .slice none 0 0, .slice none 0 0, .slice none 0 0] 26)) w2 := by rw [hw2]; exact Below.refl _ _
  clear hw2
  have X1' := kept (heap_alloc_new (w.alloc _) _) b1
  have Y1' := kept (show ((w.alloc (.cells #[.bool false, .slice ak lk ck, .slice av lv cv, .slice ac (lk + 1) cc] 26)).alloc (.cells #[.bool false, .slice none 0 0, .slice none 0 0, .slice none 0 0] 26)).heap[w.heap.size]? = some (.cells #[.bool false, .slice ak lk ck, .slice av lv cv, .slice ac (lk + 1) cc] 26) from (heap_alloc_old _ _ (by simp)).trans (heap_alloc_new w _)) b1
  have B1 : Below w.heap.size w w2 := (((Below.refl _ _).alloc (Nat.le_refl _) _).alloc (by simp) _).trans (b1.mono (by simp; omega))
  rw [show (w.alloc (.cells #[.bool false, .slice ak lk ck, .slice av lv cv, .slice ac (lk + 1) cc] 26)).heap.size = w.heap.size + 1 from by simp] at X1'
  have lt0 : w.heap.size < w2.heap.size := (Array.getElem?_eq_some_iff.1 Y1').1
  have c0' : w2.cell? ⟨w.heap.size, 0, none⟩ = some (.bool false) := by rw [Go.Joins.cell_of_block Y1']; rfl
  have c1 : w2.cell? ⟨w.heap.size, 1, none⟩ = some (.slice ak lk ck) := by rw [Go.Joins.cell_of_block Y1']; rfl
  have c2 : w2.cell? ⟨w.heap.size, 2, none⟩ = some (.slice av lv cv) := by rw [Go.Joins.cell_of_block Y1']; rfl
  have c3 : w2.cell? ⟨w.heap.size, 3, none⟩ = some (.slice ac (lk + 1) cc) := by rw [Go.Joins.cell_of_block Y1']; rfl
  have X := Lib.hid X1'
  have B2 := Lib.hid B1
  clear b1 X1' Y1' B1
  refine region_kit 14 34 [eqV (.pointer (some ⟨w.heap.size, 1, none⟩)), eqV (.slice ak lk ck), eqV (.int .i64 (p : Int)), eqV (.slice a1 p ck), lstV [.slice a1 p ck], rdFV w2.heap.size X1, eqV (.pointer (some ⟨w.heap.size, 3, none⟩)), eqV (.slice ac (lk + 1) cc), eqV (.int .i64 (p : Int)), eqV (.int .i64 ((p : Int) + 1)), eqV (.slice a2 (p + 1) cc), lstV [.slice a2 (p + 1) cc], rdFV w2.heap.size X2, nodSB w2.heap.size X1 X2, anyV] (by kernel_rfl) (by kernel_rfl) (by rfl) ?owes ?ends
  case owes =>
    refine OwesAll.cons (k := 0) ?_ ?_
    · intro o ho a wx hS hold hdep K hK
      simp only [List.getElem?_toArray, List.getElem?_cons_succ, List.getElem?_cons_zero, Option.some.injEq] at ho
      subst ho
      have HK := Lib.hid hK
      clear hK
      have d2 : a.tmps.getD 2 undef = .pointer (some ⟨w.heap.size, 0, none⟩) := hold 2 (unset_of (by kernel_rfl))
      clear hold hdep
      rw [Array.getD_eq_getD_getElem?] at d2
      rw [if_pos (by rfl)]
      go_simp
      exact HK.out _ _ rfl (Below.refl _ _)
    refine OwesAll.cons (k := 1) ?_ ?_
    · intro o ho a wx hS hold hdep K hK
      simp only [List.getElem?_toArray, List.getElem?_cons_succ, List.getElem?_cons_zero, Option.some.injEq] at ho
      subst ho
      have HK := Lib.hid hK
      clear hK
      have d20 : a.tmps.getD 20 undef = .pointer (some ⟨w.heap.size, 1, none⟩) := dep_at hdep 0 rfl rfl (by kernel_rfl)
      clear hold hdep
      rw [Array.getD_eq_getD_getElem?] at d20
      rw [if_pos (by rfl)]
      have c0 : wx.cell? ⟨w.heap.size, 1, none⟩ = some (.slice ak lk ck) := (hS.cell (p := ⟨w.heap.size, 1, none⟩) lt0).trans c1
      go_simp
      exact HK.out _ _ rfl (Below.refl _ _)
    refine OwesAll.cons (k := 2) ?_ ?_
    · intro o ho a wx hS hold hdep K hK
      simp only [List.getElem?_toArray, List.getElem?_cons_succ, List.getElem?_cons_zero, Option.some.injEq] at ho
      subst ho
      have HK := Lib.hid hK
      clear hK
      have d1 : a.tmps.getD 1 undef = .int .i64 (p : Int) := hold 1 (unset_of (by kernel_rfl))
      clear hold hdep
      rw [Array.getD_eq_getD_getElem?] at d1
      rw [if_pos (by rfl)]
      go_simp
      exact HK.out _ _ rfl (Below.refl _ _)
    refine OwesAll.cons (k := 3) ?_ ?_
    · intro o ho a wx hS hold hdep K hK
      simp only [List.getElem?_toArray, List.getElem?_cons_succ, List.getElem?_cons_zero, Option.some.injEq] at ho
      subst ho
      have HK := Lib.hid hK
      clear hK
      have d21 : a.tmps.getD 21 undef = .slice ak lk ck := dep_at hdep 1 rfl rfl (by kernel_rfl)
      have d22 : a.tmps.getD 22 undef = .int .i64 (p : Int) := dep_at hdep 2 rfl rfl (by kernel_rfl)
      clear hold hdep
      rw [Array.getD_eq_getD_getElem?] at d21
      rw [Array.getD_eq_getD_getElem?] at d22
      rw [if_pos (by rfl)]
      go_simp
      refine HK.out _ _ ?_ (Below.refl _ _)
      show _ = _
      rw [← S1.out]
      simp [sliced, add0, Addr.add]
    refine OwesAll.cons (k := 4) ?_ ?_
    · intro o ho a wx hS hold hdep K hK
      simp only [List.getElem?_toArray, List.getElem?_cons_succ, List.getElem?_cons_zero, Option.some.injEq] at ho
      subst ho
      have HK := Lib.hid hK
      clear hK
      have d23 : a.tmps.getD 23 undef = .slice a1 p ck := dep_at hdep 3 rfl rfl (by kernel_rfl)
      clear hold hdep
      rw [Array.getD_eq_getD_getElem?] at d23
      rw [if_pos (by rfl)]
      go_simp
      exact HK.out _ _ ⟨_, rfl, Rd.made _ _ _⟩ (below_made _ _)
    refine OwesAll.cons (k := 5) ?_ ?_
    · intro o ho a wx hS hold hdep K hK
      simp only [List.getElem?_toArray, List.getElem?_cons_succ, List.getElem?_cons_zero, Option.some.injEq] at ho
      subst ho
      have HK := Lib.hid hK
      clear hK
      obtain ⟨a24, d24, r24⟩ : ∃ a', a.tmps.getD 24 undef = .slice a' 1 1 ∧ Rd wx a' [.slice a1 p ck] := dep_at hdep 4 rfl rfl (by kernel_rfl)
      clear hold hdep
      rw [Array.getD_eq_getD_getElem?] at d24
      rw [if_pos (by rfl)]
      have CA := C1.out wx a24 (chain B2.out hS) r24
      clear r24
      go_simp
      go_wp2_with fail
      refine CA.mono ?_
      rintro e w9 ⟨⟨v9, rfl, h9⟩, b9⟩
      exact HK.out _ _ (out_rdFV h9 hS.size) b9
    refine OwesAll.cons (k := 6) ?_ ?_
    · intro o ho a wx hS hold hdep K hK
      simp only [List.getElem?_toArray, List.getElem?_cons_succ, List.getElem?_cons_zero, Option.some.injEq] at ho
      subst ho
      have HK := Lib.hid hK
      clear hK
      have d2 : a.tmps.getD 2 undef = .pointer (some ⟨w.heap.size, 0, none⟩) := hold 2 (unset_of (by kernel_rfl))
      clear hold hdep
      rw [Array.getD_eq_getD_getElem?] at d2
      rw [if_pos (by rfl)]
      go_simp
      exact HK.out _ _ rfl (Below.refl _ _)
    refine OwesAll.cons (k := 7) ?_ ?_
    · intro o ho a wx hS hold hdep K hK
      simp only [List.getElem?_toArray, List.getElem?_cons_succ, List.getElem?_cons_zero, Option.some.injEq] at ho
      subst ho
      have HK := Lib.hid hK
      clear hK
      have d26 : a.tmps.getD 26 undef = .pointer (some ⟨w.heap.size, 3, none⟩) := dep_at hdep 6 rfl rfl (by kernel_rfl)
      clear hold hdep
      rw [Array.getD_eq_getD_getElem?] at d26
      rw [if_pos (by rfl)]
      have c0 : wx.cell? ⟨w.heap.size, 3, none⟩ = some (.slice ac (lk + 1) cc) := (hS.cell (p := ⟨w.heap.size, 3, none⟩) lt0).trans c3
      go_simp
      exact HK.out _ _ rfl (Below.refl _ _)
    refine OwesAll.cons (k := 8) ?_ ?_
    · intro o ho a wx hS hold hdep K hK
      simp only [List.getElem?_toArray, List.getElem?_cons_succ, List.getElem?_cons_zero, Option.some.injEq] at ho
      subst ho
      have HK := Lib.hid hK
      clear hK
      have d1 : a.tmps.getD 1 undef = .int .i64 (p : Int) := hold 1 (unset_of (by kernel_rfl))
      clear hold hdep
      rw [Array.getD_eq_getD_getElem?] at d1
      rw [if_pos (by rfl)]
      go_simp
      exact HK.out _ _ rfl (Below.refl _ _)
    refine OwesAll.cons (k := 9) ?_ ?_
    · intro o ho a wx hS hold hdep K hK
      simp only [List.getElem?_toArray, List.getElem?_cons_succ, List.getElem?_cons_zero, Option.some.injEq] at ho
      subst ho
      have HK := Lib.hid hK
      clear hK
      have d28 : a.tmps.getD 28 undef = .int .i64 (p : Int) := dep_at hdep 8 rfl rfl (by kernel_rfl)
      clear hold hdep
      rw [Array.getD_eq_getD_getElem?] at d28
      rw [if_pos (by rfl)]
      go_simp
      refine HK.out _ _ ?_ (Below.refl _ _)
      show _ = _
      first | rfl | rw [hw1.out]
    refine OwesAll.cons (k := 10) ?_ ?_
    · intro o ho a wx hS hold hdep K hK
      simp only [List.getElem?_toArray, List.getElem?_cons_succ, List.getElem?_cons_zero, Option.some.injEq] at ho
      subst ho
      have HK := Lib.hid hK
      clear hK
      have d27 : a.tmps.getD 27 undef = .slice ac (lk + 1) cc := dep_at hdep 7 rfl rfl (by kernel_rfl)
      have d29 : a.tmps.getD 29 undef = .int .i64 ((p : Int) + 1) := dep_at hdep 9 rfl rfl (by kernel_rfl)
      clear hold hdep
      rw [Array.getD_eq_getD_getElem?] at d27
      rw [Array.getD_eq_getD_getElem?] at d29
      rw [if_pos (by rfl)]
      go_simp
      refine HK.out _ _ ?_ (Below.refl _ _)
      show _ = _
      rw [← S2.out]
      simp [sliced, add0, Addr.add]
    refine OwesAll.cons (k := 11) ?_ ?_
    · intro o ho a wx hS hold hdep K hK
      simp only [List.getElem?_toArray, List.getElem?_cons_succ, List.getElem?_cons_zero, Option.some.injEq] at ho
      subst ho
      have HK := Lib.hid hK
      clear hK
      have d30 : a.tmps.getD 30 undef = .slice a2 (p + 1) cc := dep_at hdep 10 rfl rfl (by kernel_rfl)
      clear hold hdep
      rw [Array.getD_eq_getD_getElem?] at d30
      rw [if_pos (by rfl)]
      go_simp
      exact HK.out _ _ ⟨_, rfl, Rd.made _ _ _⟩ (below_made _ _)
    refine OwesAll.cons (k := 12) ?_ ?_
    · intro o ho a wx hS hold hdep K hK
      simp only [List.getElem?_toArray, List.getElem?_cons_succ, List.getElem?_cons_zero, Option.some.injEq] at ho
      subst ho
      have HK := Lib.hid hK
      clear hK
      obtain ⟨a31, d31, r31⟩ : ∃ a', a.tmps.getD 31 undef = .slice a' 1 1 ∧ Rd wx a' [.slice a2 (p + 1) cc] := dep_at hdep 11 rfl rfl (by kernel_rfl)
      clear hold hdep
      rw [Array.getD_eq_getD_getElem?] at d31
      rw [if_pos (by rfl)]
      have CA := C2.out wx a31 (chain B2.out hS) r31
      clear r31
      go_simp
      go_wp2_with fail
      refine CA.mono ?_
      rintro e w9 ⟨⟨v9, rfl, h9⟩, b9⟩
      exact HK.out _ _ (out_rdFV h9 hS.size) b9
    refine OwesAll.cons (k := 13) ?_ ?_
    · intro o ho a wx hS hold hdep K hK
      simp only [List.getElem?_toArray, List.getElem?_cons_succ, List.getElem?_cons_zero, Option.some.injEq] at ho
      subst ho
      have HK := Lib.hid hK
      clear hK
      obtain ⟨a25, c25, d25, r25, l25, m25, n25⟩ : ∃ a' c', a.tmps.getD 25 undef = .slice a' X1.length c' ∧ Rd wx a' X1 ∧ X1.length ≤ c' ∧ c' ≤ maxLen ∧ ∀ x, a' = some x → w2.heap.size ≤ x.block := dep_at hdep 5 rfl rfl (by kernel_rfl)
      obtain ⟨a32, c32, d32, r32, l32, m32, n32⟩ : ∃ a' c', a.tmps.getD 32 undef = .slice a' X2.length c' ∧ Rd wx a' X2 ∧ X2.length ≤ c' ∧ c' ≤ maxLen ∧ ∀ x, a' = some x → w2.heap.size ≤ x.block := dep_at hdep 12 rfl rfl (by kernel_rfl)
      clear hold hdep
      rw [Array.getD_eq_getD_getElem?] at d25
      rw [Array.getD_eq_getD_getElem?] at d32
      rw [if_pos (by rfl)]
      go_simp
      exact HK.out _ _ ⟨_, _, _, _, rfl, r25, r32, l25, m25, l32, m32, n25, n32⟩ (Below.refl _ _)
    refine OwesAll.skip (f := 14) ?_
    exact OwesAll.nil
  case ends =>
    intro a wx hS hsz hdf hold hdone
    simp only [List.getElem?_toArray, List.getElem?_cons_succ, List.getElem?_cons_zero]
    intro K hK
    have HK := Lib.hid hK
    clear hK
    obtain ⟨xa, xb, xc, xd, dB, q1, q2, q3, q4, q5, q6, q7, q8⟩ : ∃ xa xb xc xd, a.tmps.getD 33 undef = .agg #[.bool false, .slice xa X1.length xc, .slice none 0 0, .slice xb X2.length xd] ∧ Rd wx xa X1 ∧ Rd wx xb X2 ∧ X1.length ≤ xc ∧ xc ≤ maxLen ∧ X2.length ≤ xd ∧ xd ≤ maxLen ∧ (∀ x, xa = some x → w2.heap.size ≤ x.block) ∧ ∀ x, xb = some x → w2.heap.size ≤ x.block := hdone 13 _ 33 rfl (by decide) rfl
    have dR : a.tmps.getD 4 undef = .pointer (some ⟨w.heap.size + 1, 0, none⟩) := hold 4 (unset_of (by kernel_rfl))
    have hdf' : a.defers = [] := hdf
    clear hold hdone hsz hdf
    rw [Array.getD_eq_getD_getElem?] at dB dR
    have XB := kept X.out hS
    have y0 : wx.cell? ⟨w.heap.size + 1, 0, none⟩ = some (.bool false) := by rw [Go.Joins.cell_of_block XB]; rfl
    have y1 : wx.cell? ⟨w.heap.size + 1, 1, none⟩ = some (.slice none 0 0) := by rw [Go.Joins.cell_of_block XB]; rfl
    have y2 : wx.cell? ⟨w.heap.size + 1, 2, none⟩ = some (.slice none 0 0) := by rw [Go.Joins.cell_of_block XB]; rfl
    have y3 : wx.cell? ⟨w.heap.size + 1, 3, none⟩ = some (.slice none 0 0) := by rw [Go.Joins.cell_of_block XB]; rfl
    have f0 := Go.Joins.unfrozen_of_block XB 0
    have f1 := Go.Joins.unfrozen_of_block XB 1
    have f2 := Go.Joins.unfrozen_of_block XB 2
    have f3 := Go.Joins.unfrozen_of_block XB 3
    rw [if_pos (by rfl)]
    go_simp
    refine HK.out _ _ ?_
    have B9 : Below w.heap.size w ((((wx.setCell ⟨w.heap.size + 1, 0, none⟩ (.bool false)).setCell ⟨w.heap.size + 1, 1, none⟩ (.slice xa X1.length xc)).setCell ⟨w.heap.size + 1, 2, none⟩ (.slice none 0 0)).setCell ⟨w.heap.size + 1, 3, none⟩ (.slice xb X2.length xd)) :=
      ((((chain B2.out hS).setCell (by simp) _).setCell (by simp) _).setCell (by simp) _).setCell (by simp) _
    clear y0 y1 y2 y3 f0 f1 f2 f3 HK K
    go_wp2_with fail
    have lt1 : w.heap.size + 1 < w2.heap.size := (Array.getElem?_eq_some_iff.1 X.out).1
    have FIN : Hid (NodOuB w.heap.size X1 X2 (.returned (.agg #[.bool false, .slice xa X1.length xc, .slice none 0 0, .slice xb X2.length xd])) ((((wx.setCell ⟨w.heap.size + 1, 0, none⟩ (.bool false)).setCell ⟨w.heap.size + 1, 1, none⟩ (.slice xa X1.length xc)).setCell ⟨w.heap.size + 1, 2, none⟩ (.slice none 0 0)).setCell ⟨w.heap.size + 1, 3, none⟩ (.slice xb X2.length xd))) :=
      Lib.hid ⟨_, rfl, xa, xb, xc, xd, rfl, q1.set4 _ _ _ _ _ (fun x hx => Nat.lt_of_lt_of_le lt1 (q7 x hx)), q2.set4 _ _ _ _ _ (fun x hx => Nat.lt_of_lt_of_le lt1 (q8 x hx)), q3, q4, q5, q6, fun x hx => Nat.le_trans (Nat.le_of_lt lt0) (q7 x hx), fun x hx => Nat.le_trans (Nat.le_of_lt lt0) (q8 x hx)⟩
    have XR : ((((wx.setCell ⟨w.heap.size + 1, 0, none⟩ (.bool false)).setCell ⟨w.heap.size + 1, 1, none⟩ (.slice xa X1.length xc)).setCell ⟨w.heap.size + 1, 2, none⟩ (.slice none 0 0)).setCell ⟨w.heap.size + 1, 3, none⟩ (.slice xb X2.length xd)).heap[w.heap.size + 1]? = some (.cells #[.bool false, .slice xa X1.length xc, .slice none 0 0, .slice xb X2.length xd] 26) := by
      rw [heap_setCell_same _ _ 3 _ _ _ (heap_setCell_same _ _ 2 _ _ _ (heap_setCell_same _ _ 1 _ _ _ (heap_setCell_same _ _ 0 _ _ _ XB)))]
      rfl
    generalize ((((wx.setCell ⟨w.heap.size + 1, 0, none⟩ (.bool false)).setCell ⟨w.heap.size + 1, 1, none⟩ (.slice xa X1.length xc)).setCell ⟨w.heap.size + 1, 2, none⟩ (.slice none 0 0)).setCell ⟨w.heap.size + 1, 3, none⟩ (.slice xb X2.length xd)) = wz at *
    have z0 : wz.cell? ⟨w.heap.size + 1, 0, none⟩ = some (.bool false) := by rw [Go.Joins.cell_of_block XR]; rfl
    have z1 : wz.cell? ⟨w.heap.size + 1, 1, none⟩ = some (.slice xa X1.length xc) := by rw [Go.Joins.cell_of_block XR]; rfl
    have z2 : wz.cell? ⟨w.heap.size + 1, 2, none⟩ = some (.slice none 0 0) := by rw [Go.Joins.cell_of_block XR]; rfl
    have z3 : wz.cell? ⟨w.heap.size + 1, 3, none⟩ = some (.slice xb X2.length xd) := by rw [Go.Joins.cell_of_block XR]; rfl
    exact bodyPost_ret (v := .agg #[.bool false, .slice xa X1.length xc, .slice none 0 0, .slice xb X2.length xd]) (by simp [results, Try.results42, go_sem, dR, z0, z1, z2, z3]) hdf' ⟨FIN.out, B9⟩
set_option maxHeartbeats 3200000 in
set_option maxRecDepth 20000 in
theorem behind_leaf (ak av ac a1 a2 : Option Addr) (ck cv cc lk lc p : Nat) (X1 X2 : List Value) (w : World)
    (S1 : Hid (sliced ak p lk ck 1 = .slice a1 (lk - p) (ck - p)))
    (S2 : Hid (sliced av p lk cv 1 = .slice a2 (lk - p) (cv - p)))
    (C1 : Hid (∀ wx a, Below w.heap.size w wx → Rd wx a [.slice a1 (lk - p) (ck - p)] → Calls Try.prog 35 #[.slice a 1 1] wx fun e w' => RowOut wx.heap.size 27 X1 e w' ∧ Below wx.heap.size wx w'))
    (C2 : Hid (∀ wx a, Below w.heap.size w wx → Rd wx a [.slice a2 (lk - p) (cv - p)] → Calls Try.prog 36 #[.slice a 1 1] wx fun e w' => RowOut wx.heap.size 9 X2 e w' ∧ Below wx.heap.size wx w'))
    (h1 : p ≤ lk) (h4 : lk ≤ ck) (h5 : lk ≤ cv) (h6 : lk ≤ 1000) :
    Calls Try.prog 43 #[.agg #[.bool true, .slice ak lk ck, .slice av lk cv, .slice ac lc cc], .int .i64 (p : Int)] w fun e w' => NodOut w.heap.size X1 X2 e w' ∧ Below w.heap.size w w' := by
  have i0 : (0 : Int) ≤ (p : Int) := by omega
  have i1 : (p : Int) ≤ 1000 := by omega
  have i2 : (p : Int) ≤ (ck : Int) := by omega
  have i3 : (p : Int) ≤ (lk : Int) := by omega
  have hw1 : Hid (IntKind.i64.wrap ((p : Int) + 1) = (p : Int) + 1) := Lib.hid (IntWalk.i64_in _ (by omega))
  have hw2 : Hid (IntKind.i64.wrap ((p : Int) + 2) = (p : Int) + 2) := Lib.hid (IntWalk.i64_in _ (by omega))
  have i6 : (p : Int) ≤ (cv : Int) := by omega
  go_enter Try.func43, Try.ntmps43
  go_wp2_with fail
  have b1 : Below ((w.alloc (.cells #[.bool true, .slice ak lk ck, .slice av lk cv, .slice ac lc cc] 26)).alloc (.cells #[.bool false, .slice none 0 0, .slice none 0 0, .slice none 0 0] 26)).heap.size ((w.alloc (.cells #[.bool true, .slice ak lk ck, .slice av lk cv, .slice ac lc cc] 26)).alloc (.cells #[.bool false, .slice none 0 0, .slice none 0 0, .slice none 0 0] 26)) ((w.alloc (.cells #[.bool true, .slice ak lk ck, .slice av lk cv, .slice ac lc cc] 26)).alloc (.cells #[.bool false, .slice none 0 0, .slice none 0 0, .slice none 0 0] 26)) := Below.refl _ _
  obtain ⟨w2, hw2⟩ : ∃ w2, (w.alloc (.cells #[.bool true, .slice ak lk ck, .slice av lk cv, .slice ac lc cc] 26)).alloc (.cells #[.bool false, .slice none 0 0, .slice none 0 0, .slice none 0 0] 26) = w2 := ⟨_, rfl⟩
  rw [hw2]
  have b1 : Below ((w.alloc (.cells #[.bool true, .slice ak lk ck, .slice av lk cv, .slice ac lc cc] 26)).alloc (.cells #[.bool false, .slice none 0 0, .slice none 0 0, .slice none 0 0] 26)).heap.size ((w.alloc (.cells #[.bool true, .slice ak lk ck, .slice av lk cv, .slice ac lc cc] 26)).alloc (.cells #[.bool false, .slice none 0 0, .slice none 0 0, .slice none 0 0] 26)) w2 := by rw [hw2]; exact Below.refl _ _
  clear hw2
  have X1' := kept (heap_alloc_new (w.alloc _) _) b1
  have Y1' := kept (show ((w.alloc (.cells #[.bool true, .slice ak lk ck, .slice av lk cv, .slice ac lc cc] 26)).alloc (.cells #[.bool false, .slice none 0 0, .slice none 0 0, .slice none 0 0] 26)).heap[w.heap.size]? = some (.cells #[.bool true, .slice ak lk ck, .slice av lk cv, .slice ac lc cc] 26) from (heap_alloc_old _ _ (by simp)).trans (heap_alloc_new w _)) b1
  have B1 : Below w.heap.size w w2 := (((Below.refl _ _).alloc (Nat.le_refl _) _).alloc (by simp) _).trans (b1.mono (by simp; omega))
  rw [show (w.alloc (.cells #[.bool true, .slice ak lk ck, .slice av lk cv, .slice ac lc cc] 26)).heap.size = w.heap.size + 1 from by simp] at X1'
  have lt0 : w.heap.size < w2.heap.size := (Array.getElem?_eq_some_iff.1 Y1').1
  have c0' : w2.cell? ⟨w.heap.size, 0, none⟩ = some (.bool true) := by rw [Go.Joins.cell_of_block Y1']; rfl
  have c1 : w2.cell? ⟨w.heap.size, 1, none⟩ = some (.slice ak lk ck) := by rw [Go.Joins.cell_of_block Y1']; rfl
  have c2 : w2.cell? ⟨w.heap.size, 2, none⟩ = some (.slice av lk cv) := by rw [Go.Joins.cell_of_block Y1']; rfl
  have c3 : w2.cell? ⟨w.heap.size, 3, none⟩ = some (.slice ac lc cc) := by rw [Go.Joins.cell_of_block Y1']; rfl
  have X := Lib.hid X1'
  have B2 := Lib.hid B1
  clear b1 X1' Y1' B1
  refine region_kit 13 35 [eqV (.pointer (some ⟨w.heap.size, 1, none⟩)), eqV (.slice ak lk ck), eqV (.int .i64 (p : Int)), eqV (.slice a1 (lk - p) (ck - p)), lstV [.slice a1 (lk - p) (ck - p)], rdFV w2.heap.size X1, eqV (.pointer (some ⟨w.heap.size, 2, none⟩)), eqV (.slice av lk cv), eqV (.int .i64 (p : Int)), eqV (.slice a2 (lk - p) (cv - p)), lstV [.slice a2 (lk - p) (cv - p)], rdFV w2.heap.size X2, nodSP w2.heap.size X1 X2, anyV] (by kernel_rfl) (by kernel_rfl) (by rfl) ?owes ?ends
  case owes =>
    refine OwesAll.cons (k := 0) ?_ ?_
    · intro o ho a wx hS hold hdep K hK
      simp only [List.getElem?_toArray, List.getElem?_cons_succ, List.getElem?_cons_zero, Option.some.injEq] at ho
      subst ho
      have HK := Lib.hid hK
      clear hK
      have d2 : a.tmps.getD 2 undef = .pointer (some ⟨w.heap.size, 0, none⟩) := hold 2 (unset_of (by kernel_rfl))
      clear hold hdep
      rw [Array.getD_eq_getD_getElem?] at d2
      rw [if_pos (by rfl)]
      go_simp
      exact HK.out _ _ rfl (Below.refl _ _)
    refine OwesAll.cons (k := 1) ?_ ?_
    · intro o ho a wx hS hold hdep K hK
      simp only [List.getElem?_toArray, List.getElem?_cons_succ, List.getElem?_cons_zero, Option.some.injEq] at ho
      subst ho
      have HK := Lib.hid hK
      clear hK
      have d7 : a.tmps.getD 7 undef = .pointer (some ⟨w.heap.size, 1, none⟩) := dep_at hdep 0 rfl rfl (by kernel_rfl)
      clear hold hdep
      rw [Array.getD_eq_getD_getElem?] at d7
      rw [if_pos (by rfl)]
      have c0 : wx.cell? ⟨w.heap.size, 1, none⟩ = some (.slice ak lk ck) := (hS.cell (p := ⟨w.heap.size, 1, none⟩) lt0).trans c1
      go_simp
      exact HK.out _ _ rfl (Below.refl _ _)
    refine OwesAll.cons (k := 2) ?_ ?_
    · intro o ho a wx hS hold hdep K hK
      simp only [List.getElem?_toArray, List.getElem?_cons_succ, List.getElem?_cons_zero, Option.some.injEq] at ho
      subst ho
      have HK := Lib.hid hK
      clear hK
      have d1 : a.tmps.getD 1 undef = .int .i64 (p : Int) := hold 1 (unset_of (by kernel_rfl))
      clear hold hdep
      rw [Array.getD_eq_getD_getElem?] at d1
      rw [if_pos (by rfl)]
      go_simp
      exact HK.out _ _ rfl (Below.refl _ _)
    refine OwesAll.cons (k := 3) ?_ ?_
    · intro o ho a wx hS hold hdep K hK
      simp only [List.getElem?_toArray, List.getElem?_cons_succ, List.getElem?_cons_zero, Option.some.injEq] at ho
      subst ho
      have HK := Lib.hid hK
      clear hK
      have d8 : a.tmps.getD 8 undef = .slice ak lk ck := dep_at hdep 1 rfl rfl (by kernel_rfl)
      have d9 : a.tmps.getD 9 undef = .int .i64 (p : Int) := dep_at hdep 2 rfl rfl (by kernel_rfl)
      clear hold hdep
      rw [Array.getD_eq_getD_getElem?] at d8
      rw [Array.getD_eq_getD_getElem?] at d9
      rw [if_pos (by rfl)]
      go_simp
      refine HK.out _ _ ?_ (Below.refl _ _)
      show _ = _
      rw [← S1.out]
      simp [sliced, add0, Addr.add]
    refine OwesAll.cons (k := 4) ?_ ?_
    · intro o ho a wx hS hold hdep K hK
      simp only [List.getElem?_toArray, List.getElem?_cons_succ, List.getElem?_cons_zero, Option.some.injEq] at ho
      subst ho
      have HK := Lib.hid hK
      clear hK
      have d10 : a.tmps.getD 10 undef = .slice a1 (lk - p) (ck - p) := dep_at hdep 3 rfl rfl (by kernel_rfl)
      clear hold hdep
      rw [Array.getD_eq_getD_getElem?] at d10
      rw [if_pos (by rfl)]
      go_simp
      exact HK.out _ _ ⟨_, rfl, Rd.made _ _ _⟩ (below_made _ _)
    refine OwesAll.cons (k := 5) ?_ ?_
    · intro o ho a wx hS hold hdep K hK
      simp only [List.getElem?_toArray, List.getElem?_cons_succ, List.getElem?_cons_zero, Option.some.injEq] at ho
      subst ho
      have HK := Lib.hid hK
      clear hK
      obtain ⟨a11, d11, r11⟩ : ∃ a', a.tmps.getD 11 undef = .slice a' 1 1 ∧ Rd wx a' [.slice a1 (lk - p) (ck - p)] := dep_at hdep 4 rfl rfl (by kernel_rfl)
      clear hold hdep
      rw [Array.getD_eq_getD_getElem?] at d11
      rw [if_pos (by rfl)]
      have CA := C1.out wx a11 (chain B2.out hS) r11
      clear r11
      go_simp
      go_wp2_with fail
      refine CA.mono ?_
      rintro e w9 ⟨⟨v9, rfl, h9⟩, b9⟩
      exact HK.out _ _ (out_rdFV h9 hS.size) b9
    refine OwesAll.cons (k := 6) ?_ ?_
    · intro o ho a wx hS hold hdep K hK
      simp only [List.getElem?_toArray, List.getElem?_cons_succ, List.getElem?_cons_zero, Option.some.injEq] at ho
      subst ho
      have HK := Lib.hid hK
      clear hK
      have d2 : a.tmps.getD 2 undef = .pointer (some ⟨w.heap.size, 0, none⟩) := hold 2 (unset_of (by kernel_rfl))
      clear hold hdep
      rw [Array.getD_eq_getD_getElem?] at d2
      rw [if_pos (by rfl)]
      go_simp
      exact HK.out _ _ rfl (Below.refl _ _)
    refine OwesAll.cons (k := 7) ?_ ?_
    · intro o ho a wx hS hold hdep K hK
      simp only [List.getElem?_toArray, List.getElem?_cons_succ, List.getElem?_cons_zero, Option.some.injEq] at ho
      subst ho
      have HK := Lib.hid hK
      clear hK
      have d13 : a.tmps.getD 13 undef = .pointer (some ⟨w.heap.size, 2, none⟩) := dep_at hdep 6 rfl rfl (by kernel_rfl)
      clear hold hdep
      rw [Array.getD_eq_getD_getElem?] at d13
      rw [if_pos (by rfl)]
      have c0 : wx.cell? ⟨w.heap.size, 2, none⟩ = some (.slice av lk cv) := (hS.cell (p := ⟨w.heap.size, 2, none⟩) lt0).trans c2
      go_simp
      exact HK.out _ _ rfl (Below.refl _ _)
    refine OwesAll.cons (k := 8) ?_ ?_
    · intro o ho a wx hS hold hdep K hK
      simp only [List.getElem?_toArray, List.getElem?_cons_succ, List.getElem?_cons_zero, Option.some.injEq] at ho
      subst ho
      have HK := Lib.hid hK
      clear hK
      have d1 : a.tmps.getD 1 undef = .int .i64 (p : Int) := hold 1 (unset_of (by kernel_rfl))
      clear hold hdep
      rw [Array.getD_eq_getD_getElem?] at d1
      rw [if_pos (by rfl)]
      go_simp
      exact HK.out _ _ rfl (Below.refl _ _)
    refine OwesAll.cons (k := 9) ?_ ?_
    · intro o ho a wx hS hold hdep K hK
      simp only [List.getElem?_toArray, List.getElem?_cons_succ, List.getElem?_cons_zero, Option.some.injEq] at ho
      subst ho
      have HK := Lib.hid hK
      clear hK
      have d14 : a.tmps.getD 14 undef = .slice av lk cv := dep_at hdep 7 rfl rfl (by kernel_rfl)
      have d15 : a.tmps.getD 15 undef = .int .i64 (p : Int) := dep_at hdep 8 rfl rfl (by kernel_rfl)
      clear hold hdep
      rw [Array.getD_eq_getD_getElem?] at d14
      rw [Array.getD_eq_getD_getElem?] at d15
      rw [if_pos (by rfl)]
      go_simp
      refine HK.out _ _ ?_ (Below.refl _ _)
      show _ = _
      rw [← S2.out]
      simp [sliced, add0, Addr.add]
    refine OwesAll.cons (k := 10) ?_ ?_
    · intro o ho a wx hS hold hdep K hK
      simp only [List.getElem?_toArray, List.getElem?_cons_succ, List.getElem?_cons_zero, Option.some.injEq] at ho
      subst ho
      have HK := Lib.hid hK
      clear hK
      have d16 : a.tmps.getD 16 undef = .slice a2 (lk - p) (cv - p) := dep_at hdep 9 rfl rfl (by kernel_rfl)
      clear hold hdep
      rw [Array.getD_eq_getD_getElem?] at d16
      rw [if_pos (by rfl)]
      go_simp
      exact HK.out _ _ ⟨_, rfl, Rd.made _ _ _⟩ (below_made _ _)
    refine OwesAll.cons (k := 11) ?_ ?_
    · intro o ho a wx hS hold hdep K hK
      simp only [List.getElem?_toArray, List.getElem?_cons_succ, List.getElem?_cons_zero, Option.some.injEq] at ho
      subst ho
      have HK := Lib.hid hK
      clear hK
      obtain ⟨a17, d17, r17⟩ : ∃ a', a.tmps.getD 17 undef = .slice a' 1 1 ∧ Rd wx a' [.slice a2 (lk - p) (cv - p)] := dep_at hdep 10 rfl rfl (by kernel_rfl)
      clear hold hdep
      rw [Array.getD_eq_getD_getElem?] at d17
      rw [if_pos (by rfl)]
      have CA := C2.out wx a17 (chain B2.out hS) r17
      clear r17
      go_simp
      go_wp2_with fail
      refine CA.mono ?_
      rintro e w9 ⟨⟨v9, rfl, h9⟩, b9⟩
      exact HK.out _ _ (out_rdFV h9 hS.size) b9
    refine OwesAll.cons (k := 12) ?_ ?_
    · intro o ho a wx hS hold hdep K hK
      simp only [List.getElem?_toArray, List.getElem?_cons_succ, List.getElem?_cons_zero, Option.some.injEq] at ho
      subst ho
      have HK := Lib.hid hK
      clear hK
      obtain ⟨a12, c12, d12, r12, l12, m12, n12⟩ : ∃ a' c', a.tmps.getD 12 undef = .slice a' X1.length c' ∧ Rd wx a' X1 ∧ X1.length ≤ c' ∧ c' ≤ maxLen ∧ ∀ x, a' = some x → w2.heap.size ≤ x.block := dep_at hdep 5 rfl rfl (by kernel_rfl)
      obtain ⟨a18, c18, d18, r18, l18, m18, n18⟩ : ∃ a' c', a.tmps.getD 18 undef = .slice a' X2.length c' ∧ Rd wx a' X2 ∧ X2.length ≤ c' ∧ c' ≤ maxLen ∧ ∀ x, a' = some x → w2.heap.size ≤ x.block := dep_at hdep 11 rfl rfl (by kernel_rfl)
      clear hold hdep
      rw [Array.getD_eq_getD_getElem?] at d12
      rw [Array.getD_eq_getD_getElem?] at d18
      rw [if_pos (by rfl)]
      go_simp
      exact HK.out _ _ ⟨_, _, _, _, rfl, r12, r18, l12, m12, l18, m18, n12, n18⟩ (Below.refl _ _)
    refine OwesAll.skip (f := 13) ?_
    exact OwesAll.nil
  case ends =>
    intro a wx hS hsz hdf hold hdone
    simp only [List.getElem?_toArray, List.getElem?_cons_succ, List.getElem?_cons_zero]
    intro K hK
    have HK := Lib.hid hK
    clear hK
    obtain ⟨xa, xb, xc, xd, dB, q1, q2, q3, q4, q5, q6, q7, q8⟩ : ∃ xa xb xc xd, a.tmps.getD 19 undef = .agg #[.bool true, .slice xa X1.length xc, .slice xb X2.length xd, .slice none 0 0] ∧ Rd wx xa X1 ∧ Rd wx xb X2 ∧ X1.length ≤ xc ∧ xc ≤ maxLen ∧ X2.length ≤ xd ∧ xd ≤ maxLen ∧ (∀ x, xa = some x → w2.heap.size ≤ x.block) ∧ ∀ x, xb = some x → w2.heap.size ≤ x.block := hdone 12 _ 19 rfl (by decide) rfl
    have dR : a.tmps.getD 4 undef = .pointer (some ⟨w.heap.size + 1, 0, none⟩) := hold 4 (unset_of (by kernel_rfl))
    have hdf' : a.defers = [] := hdf
    clear hold hdone hsz hdf
    rw [Array.getD_eq_getD_getElem?] at dB dR
    have XB := kept X.out hS
    have y0 : wx.cell? ⟨w.heap.size + 1, 0, none⟩ = some (.bool false) := by rw [Go.Joins.cell_of_block XB]; rfl
    have y1 : wx.cell? ⟨w.heap.size + 1, 1, none⟩ = some (.slice none 0 0) := by rw [Go.Joins.cell_of_block XB]; rfl
    have y2 : wx.cell? ⟨w.heap.size + 1, 2, none⟩ = some (.slice none 0 0) := by rw [Go.Joins.cell_of_block XB]; rfl
    have y3 : wx.cell? ⟨w.heap.size + 1, 3, none⟩ = some (.slice none 0 0) := by rw [Go.Joins.cell_of_block XB]; rfl
    have f0 := Go.Joins.unfrozen_of_block XB 0
    have f1 := Go.Joins.unfrozen_of_block XB 1
    have f2 := Go.Joins.unfrozen_of_block XB 2
    have f3 := Go.Joins.unfrozen_of_block XB 3
    rw [if_pos (by rfl)]
    go_simp
    refine HK.out _ _ ?_
    have B9 : Below w.heap.size w ((((wx.setCell ⟨w.heap.size + 1, 0, none⟩ (.bool true)).setCell ⟨w.heap.size + 1, 1, none⟩ (.slice xa X1.length xc)).setCell ⟨w.heap.size + 1, 2, none⟩ (.slice xb X2.length xd)).setCell ⟨w.heap.size + 1, 3, none⟩ (.slice none 0 0)) :=
      ((((chain B2.out hS).setCell (by simp) _).setCell (by simp) _).setCell (by simp) _).setCell (by simp) _
    clear y0 y1 y2 y3 f0 f1 f2 f3 HK K
    go_wp2_with fail
    have lt1 : w.heap.size + 1 < w2.heap.size := (Array.getElem?_eq_some_iff.1 X.out).1
    have FIN : Hid (NodOut w.heap.size X1 X2 (.returned (.agg #[.bool true, .slice xa X1.length xc, .slice xb X2.length xd, .slice none 0 0])) ((((wx.setCell ⟨w.heap.size + 1, 0, none⟩ (.bool true)).setCell ⟨w.heap.size + 1, 1, none⟩ (.slice xa X1.length xc)).setCell ⟨w.heap.size + 1, 2, none⟩ (.slice xb X2.length xd)).setCell ⟨w.heap.size + 1, 3, none⟩ (.slice none 0 0))) :=
      Lib.hid ⟨_, rfl, xa, xb, xc, xd, rfl, q1.set4 _ _ _ _ _ (fun x hx => Nat.lt_of_lt_of_le lt1 (q7 x hx)), q2.set4 _ _ _ _ _ (fun x hx => Nat.lt_of_lt_of_le lt1 (q8 x hx)), q3, q4, q5, q6, fun x hx => Nat.le_trans (Nat.le_of_lt lt0) (q7 x hx), fun x hx => Nat.le_trans (Nat.le_of_lt lt0) (q8 x hx)⟩
    have XR : ((((wx.setCell ⟨w.heap.size + 1, 0, none⟩ (.bool true)).setCell ⟨w.heap.size + 1, 1, none⟩ (.slice xa X1.length xc)).setCell ⟨w.heap.size + 1, 2, none⟩ (.slice xb X2.length xd)).setCell ⟨w.heap.size + 1, 3, none⟩ (.slice none 0 0)).heap[w.heap.size + 1]? = some (.cells #[.bool true, .slice xa X1.length xc, .slice xb X2.length xd, .slice none 0 0] 26) := by
      rw [heap_setCell_same _ _ 3 _ _ _ (heap_setCell_same _ _ 2 _ _ _ (heap_setCell_same _ _ 1 _ _ _ (heap_setCell_same _ _ 0 _ _ _ XB)))]
      rfl
    generalize ((((wx.setCell ⟨w.heap.size + 1, 0, none⟩ (.bool true)).setCell ⟨w.heap.size + 1, 1, none⟩ (.slice xa X1.length xc)).setCell ⟨w.heap.size + 1, 2, none⟩ (.slice xb X2.length xd)).setCell ⟨w.heap.size + 1, 3, none⟩ (.slice none 0 0)) = wz at *
    have z0 : wz.cell? ⟨w.heap.size + 1, 0, none⟩ = some (.bool true) := by rw [Go.Joins.cell_of_block XR]; rfl
    have z1 : wz.cell? ⟨w.heap.size + 1, 1, none⟩ = some (.slice xa X1.length xc) := by rw [Go.Joins.cell_of_block XR]; rfl
    have z2 : wz.cell? ⟨w.heap.size + 1, 2, none⟩ = some (.slice xb X2.length xd) := by rw [Go.Joins.cell_of_block XR]; rfl
    have z3 : wz.cell? ⟨w.heap.size + 1, 3, none⟩ = some (.slice none 0 0) := by rw [Go.Joins.cell_of_block XR]; rfl
    exact bodyPost_ret (v := .agg #[.bool true, .slice xa X1.length xc, .slice xb X2.length xd, .slice none 0 0]) (by simp [results, Try.results43, go_sem, dR, z0, z1, z2, z3]) hdf' ⟨FIN.out, B9⟩
set_option maxHeartbeats 3200000 in
set_option maxRecDepth 20000 in
theorem behind_branch (ak av ac a1 a2 : Option Addr) (ck cv cc lk lv p : Nat) (X1 X2 : List Value) (w : World)
    (S1 : Hid (sliced ak (p + 1) lk ck 1 = .slice a1 (lk - (p + 1)) (ck - (p + 1))))
    (S2 : Hid (sliced ac (p + 1) (lk + 1) cc 1 = .slice a2 (lk - p) (cc - (p + 1))))
    (C1 : Hid (∀ wx a, Below w.heap.size w wx → Rd wx a [.slice a1 (lk - (p + 1)) (ck - (p + 1))] → Calls Try.prog 35 #[.slice a 1 1] wx fun e w' => RowOut wx.heap.size 27 X1 e w' ∧ Below wx.heap.size wx w'))
    (C2 : Hid (∀ wx a, Below w.heap.size w wx → Rd wx a [.slice a2 (lk - p) (cc - (p + 1))] → Calls Try.prog 37 #[.slice a 1 1] wx fun e w' => RowOut wx.heap.size 3 X2 e w' ∧ Below wx.heap.size wx w'))
    (h1 : p + 1 ≤ lk) (h4 : lk ≤ ck) (h5 : lk + 1 ≤ cc) (h6 : lk ≤ 1000) :
    Calls Try.prog 43 #[.agg #[.bool false, .slice ak lk ck, .slice av lv cv, .slice ac (lk + 1) cc], .int .i64 (p : Int)] w fun e w' => NodOuB w.heap.size X1 X2 e w' ∧ Below w.heap.size w w' := by
  have i0 : (0 : Int) ≤ (p : Int) := by omega
  have i1 : (p : Int) ≤ 1000 := by omega
  have i2 : (p : Int) ≤ (ck : Int) := by omega
  have i3 : (p : Int) ≤ (lk : Int) := by omega
  have hw1 : Hid (IntKind.i64.wrap ((p : Int) + 1) = (p : Int) + 1) := Lib.hid (IntWalk.i64_in _ (by omega))
  have hw2 : Hid (IntKind.i64.wrap ((p : Int) + 2) = (p : Int) + 2) := Lib.hid (IntWalk.i64_in _ (by omega))
  have i4 : (p : Int) + 1 ≤ (lk : Int) := by omega
  have i6 : (p : Int) + 1 ≤ (cc : Int) := by omega
  have i7 : (p : Int) + 1 ≤ (lk : Int) + 1 := by omega
  go_enter Try.func43, Try.ntmps43
  go_wp2_with fail
  have b1 : Below ((w.alloc (.cells #[.bool false, .slice ak lk ck, .slice av lv cv, .slice ac (lk + 1) cc] 26)).alloc (.cells #[.bool false, .slice none 0 0, .slice none 0 0, .slice none 0 0] 26)).heap.size ((w.alloc (.cells #[.bool false, .slice ak lk ck, .slice av lv cv, .slice ac (lk + 1) cc] 26)).alloc (.cells #[.bool false, .slice none 0 0, .slice none 0 0, .slice none 0 0] 26)) ((w.alloc (.cells #[.bool false, .slice ak lk ck, .slice av lv cv, .slice ac (lk + 1) cc] 26)).alloc (.cells #[.bool false, .slice none 0 0, .slice none 0 0, .slice none 0 0] 26)) := Below.refl _ _
  obtain ⟨w2, hw2⟩ : ∃ w2, (w.alloc (.cells #[.bool false, .slice ak lk ck, .slice av lv cv, .slice ac (lk + 1) cc] 26)).alloc (.cells #[.bool false, .slice none 0 0, .slice none 0 0, .slice none 0 0] 26) = w2 := ⟨_, rfl⟩
  rw [hw2]
  have b1 : Below ((w.alloc (.cells #[.bool false, .slice ak lk ck, .slice av lv cv, .slice ac (lk + 1) cc] 26)).alloc (.cells #[.bool false, .slice none 0 0, .slice none 0 0, .slice none 0 0] 26)).heap.size ((w.alloc (.cells #[.bool false, .slice ak lk ck, .slice av lv cv, .slice ac (lk + 1) cc] 26)).alloc (.cells #[.bool false, .slice none 0 0, .slice none 0 0, .slice none 0 0] 26)) w2 := by rw [hw2]; exact Below.refl _ _
  clear hw2
  have X1' := kept (heap_alloc_new (w.alloc _) _) b1
  have Y1' := kept (show ((w.alloc (.cells #[.bool false, .slice ak lk ck, .slice av lv cv, .slice ac (lk + 1) cc] 26)).alloc (.cells #[.bool false, .slice none 0 0, .slice none 0 0, .slice none 0 0] 26)).heap[w.heap.size]? = some (.cells #[.bool false, .slice ak lk ck, .slice av lv cv, .slice ac (lk + 1) cc] 26) from (heap_alloc_old _ _ (by simp)).trans (heap_alloc_new w _)) b1
  have B1 : Below w.heap.size w w2 := (((Below.refl _ _).alloc (Nat.le_refl _) _).alloc (by simp) _).trans (b1.mono (by simp; omega))
  rw [show (w.alloc (.cells #[.bool false, .slice ak lk ck, .slice av lv cv, .slice ac (lk + 1) cc] 26)).heap.size = w.heap.size + 1 from by simp] at X1'
  have lt0 : w.heap.size < w2.heap.size := (Array.getElem?_eq_some_iff.1 Y1').1
  have c0' : w2.cell? ⟨w.heap.size, 0, none⟩ = some (.bool false) := by rw [Go.Joins.cell_of_block Y1']; rfl
  have c1 : w2.cell? ⟨w.heap.size, 1, none⟩ = some (.slice ak lk ck) := by rw [Go.Joins.cell_of_block Y1']; rfl
  have c2 : w2.cell? ⟨w.heap.size, 2, none⟩ = some (.slice av lv cv) := by rw [Go.Joins.cell_of_block Y1']; rfl
  have c3 : w2.cell? ⟨w.heap.size, 3, none⟩ = some (.slice ac (lk + 1) cc) := by rw [Go.Joins.cell_of_block Y1']; rfl
  have X := Lib.hid X1'
  have B2 := Lib.hid B1
  clear b1 X1' Y1' B1
  refine region_kit 15 35 [eqV (.pointer (some ⟨w.heap.size, 1, none⟩)), eqV (.slice ak lk ck), eqV (.int .i64 (p : Int)), eqV (.int .i64 ((p : Int) + 1)), eqV (.slice a1 (lk - (p + 1)) (ck - (p + 1))), lstV [.slice a1 (lk - (p + 1)) (ck - (p + 1))], rdFV w2.heap.size X1, eqV (.pointer (some ⟨w.heap.size, 3, none⟩)), eqV (.slice ac (lk + 1) cc), eqV (.int .i64 (p : Int)), eqV (.int .i64 ((p : Int) + 1)), eqV (.slice a2 (lk - p) (cc - (p + 1))), lstV [.slice a2 (lk - p) (cc - (p + 1))], rdFV w2.heap.size X2, nodSB w2.heap.size X1 X2, anyV] (by kernel_rfl) (by kernel_rfl) (by rfl) ?owes ?ends
  case owes =>
    refine OwesAll.cons (k := 0) ?_ ?_
    · intro o ho a wx hS hold hdep K hK
      simp only [List.getElem?_toArray, List.getElem?_cons_succ, List.getElem?_cons_zero, Option.some.injEq] at ho
      subst ho
      have HK := Lib.hid hK
      clear hK
      have d2 : a.tmps.getD 2 undef = .pointer (some ⟨w.heap.size, 0, none⟩) := hold 2 (unset_of (by kernel_rfl))
      clear hold hdep
      rw [Array.getD_eq_getD_getElem?] at d2
      rw [if_pos (by rfl)]
      go_simp
      exact HK.out _ _ rfl (Below.refl _ _)
    refine OwesAll.cons (k := 1) ?_ ?_
    · intro o ho a wx hS hold hdep K hK
      simp only [List.getElem?_toArray, List.getElem?_cons_succ, List.getElem?_cons_zero, Option.some.injEq] at ho
      subst ho
      have HK := Lib.hid hK
      clear hK
      have d20 : a.tmps.getD 20 undef = .pointer (some ⟨w.heap.size, 1, none⟩) := dep_at hdep 0 rfl rfl (by kernel_rfl)
      clear hold hdep
      rw [Array.getD_eq_getD_getElem?] at d20
      rw [if_pos (by rfl)]
      have c0 : wx.cell? ⟨w.heap.size, 1, none⟩ = some (.slice ak lk ck) := (hS.cell (p := ⟨w.heap.size, 1, none⟩) lt0).trans c1
      go_simp
      exact HK.out _ _ rfl (Below.refl _ _)
    refine OwesAll.cons (k := 2) ?_ ?_
    · intro o ho a wx hS hold hdep K hK
      simp only [List.getElem?_toArray, List.getElem?_cons_succ, List.getElem?_cons_zero, Option.some.injEq] at ho
      subst ho
      have HK := Lib.hid hK
      clear hK
      have d1 : a.tmps.getD 1 undef = .int .i64 (p : Int) := hold 1 (unset_of (by kernel_rfl))
      clear hold hdep
      rw [Array.getD_eq_getD_getElem?] at d1
      rw [if_pos (by rfl)]
      go_simp
      exact HK.out _ _ rfl (Below.refl _ _)
    refine OwesAll.cons (k := 3) ?_ ?_
    · intro o ho a wx hS hold hdep K hK
      simp only [List.getElem?_toArray, List.getElem?_cons_succ, List.getElem?_cons_zero, Option.some.injEq] at ho
      subst ho
      have HK := Lib.hid hK
      clear hK
      have d22 : a.tmps.getD 22 undef = .int .i64 (p : Int) := dep_at hdep 2 rfl rfl (by kernel_rfl)
      clear hold hdep
      rw [Array.getD_eq_getD_getElem?] at d22
      rw [if_pos (by rfl)]
      go_simp
      refine HK.out _ _ ?_ (Below.refl _ _)
      show _ = _
      first | rfl | rw [hw1.out]
    refine OwesAll.cons (k := 4) ?_ ?_
    · intro o ho a wx hS hold hdep K hK
      simp only [List.getElem?_toArray, List.getElem?_cons_succ, List.getElem?_cons_zero, Option.some.injEq] at ho
      subst ho
      have HK := Lib.hid hK
      clear hK
      have d21 : a.tmps.getD 21 undef = .slice ak lk ck := dep_at hdep 1 rfl rfl (by kernel_rfl)
      have d23 : a.tmps.getD 23 undef = .int .i64 ((p : Int) + 1) := dep_at hdep 3 rfl rfl (by kernel_rfl)
      clear hold hdep
      rw [Array.getD_eq_getD_getElem?] at d21
      rw [Array.getD_eq_getD_getElem?] at d23
      rw [if_pos (by rfl)]
      go_simp
      refine HK.out _ _ ?_ (Below.refl _ _)
      show _ = _
      rw [← S1.out]
      simp [sliced, add0, Addr.add]
    refine OwesAll.cons (k := 5) ?_ ?_
    · intro o ho a wx hS hold hdep K hK
      simp only [List.getElem?_toArray, List.getElem?_cons_succ, List.getElem?_cons_zero, Option.some.injEq] at ho
      subst ho
      have HK := Lib.hid hK
      clear hK
      have d24 : a.tmps.getD 24 undef = .slice a1 (lk - (p + 1)) (ck - (p + 1)) := dep_at hdep 4 rfl rfl (by kernel_rfl)
      clear hold hdep
      rw [Array.getD_eq_getD_getElem?] at d24
      rw [if_pos (by rfl)]
      go_simp
      exact HK.out _ _ ⟨_, rfl, Rd.made _ _ _⟩ (below_made _ _)
    refine OwesAll.cons (k := 6) ?_ ?_
    · intro o ho a wx hS hold hdep K hK
      simp only [List.getElem?_toArray, List.getElem?_cons_succ, List.getElem?_cons_zero, Option.some.injEq] at ho
      subst ho
      have HK := Lib.hid hK
      clear hK
      obtain ⟨a25, d25, r25⟩ : ∃ a', a.tmps.getD 25 undef = .slice a' 1 1 ∧ Rd wx a' [.slice a1 (lk - (p + 1)) (ck - (p + 1))] := dep_at hdep 5 rfl rfl (by kernel_rfl)
      clear hold hdep
      rw [Array.getD_eq_getD_getElem?] at d25
      rw [if_pos (by rfl)]
      have CA := C1.out wx a25 (chain B2.out hS) r25
      clear r25
      go_simp
      go_wp2_with fail
      refine CA.mono ?_
      rintro e w9 ⟨⟨v9, rfl, h9⟩, b9⟩
      exact HK.out _ _ (out_rdFV h9 hS.size) b9
    refine OwesAll.cons (k := 7) ?_ ?_
    · intro o ho a wx hS hold hdep K hK
      simp only [List.getElem?_toArray, List.getElem?_cons_succ, List.getElem?_cons_zero, Option.some.injEq] at ho
      subst ho
      have HK := Lib.hid hK
      clear hK
      have d2 : a.tmps.getD 2 undef = .pointer (some ⟨w.heap.size, 0, none⟩) := hold 2 (unset_of (by kernel_rfl))
      clear hold hdep
      rw [Array.getD_eq_getD_getElem?] at d2
      rw [if_pos (by rfl)]
      go_simp
      exact HK.out _ _ rfl (Below.refl _ _)
    refine OwesAll.cons (k := 8) ?_ ?_
    · intro o ho a wx hS hold hdep K hK
      simp only [List.getElem?_toArray, List.getElem?_cons_succ, List.getElem?_cons_zero, Option.some.injEq] at ho
      subst ho
      have HK := Lib.hid hK
      clear hK
      have d27 : a.tmps.getD 27 undef = .pointer (some ⟨w.heap.size, 3, none⟩) := dep_at hdep 7 rfl rfl (by kernel_rfl)
      clear hold hdep
      rw [Array.getD_eq_getD_getElem?] at d27
      rw [if_pos (by rfl)]
      have c0 : wx.cell? ⟨w.heap.size, 3, none⟩ = some (.slice ac (lk + 1) cc) := (hS.cell (p := ⟨w.heap.size, 3, none⟩) lt0).trans c3
      go_simp
      exact HK.out _ _ rfl (Below.refl _ _)
    refine OwesAll.cons (k := 9) ?_ ?_
    · intro o ho a wx hS hold hdep K hK
      simp only [List.getElem?_toArray, List.getElem?_cons_succ, List.getElem?_cons_zero, Option.some.injEq] at ho
      subst ho
      have HK := Lib.hid hK
      clear hK
      have d1 : a.tmps.getD 1 undef = .int .i64 (p : Int) := hold 1 (unset_of (by kernel_rfl))
      clear hold hdep
      rw [Array.getD_eq_getD_getElem?] at d1
      rw [if_pos (by rfl)]
      go_simp
      exact HK.out _ _ rfl (Below.refl _ _)
    refine OwesAll.cons (k := 10) ?_ ?_
    · intro o ho a wx hS hold hdep K hK
      simp only [List.getElem?_toArray, List.getElem?_cons_succ, List.getElem?_cons_zero, Option.some.injEq] at ho
      subst ho
      have HK := Lib.hid hK
      clear hK
      have d29 : a.tmps.getD 29 undef = .int .i64 (p : Int) := dep_at hdep 9 rfl rfl (by kernel_rfl)
      clear hold hdep
      rw [Array.getD_eq_getD_getElem?] at d29
      rw [if_pos (by rfl)]
      go_simp
      refine HK.out _ _ ?_ (Below.refl _ _)
      show _ = _
      first | rfl | rw [hw1.out]
    refine OwesAll.cons (k := 11) ?_ ?_
    · intro o ho a wx hS hold hdep K hK
      simp only [List.getElem?_toArray, List.getElem?_cons_succ, List.getElem?_cons_zero, Option.some.injEq] at ho
      subst ho
      have HK := Lib.hid hK
      clear hK
      have d28 : a.tmps.getD 28 undef = .slice ac (lk + 1) cc := dep_at hdep 8 rfl rfl (by kernel_rfl)
      have d30 : a.tmps.getD 30 undef = .int .i64 ((p : Int) + 1) := dep_at hdep 10 rfl rfl (by kernel_rfl)
      clear hold hdep
      rw [Array.getD_eq_getD_getElem?] at d28
      rw [Array.getD_eq_getD_getElem?] at d30
      rw [if_pos (by rfl)]
      go_simp
      refine HK.out _ _ ?_ (Below.refl _ _)
      show _ = _
      rw [← S2.out]
      simp [sliced, add0, Addr.add]
    refine OwesAll.cons (k := 12) ?_ ?_
    · intro o ho a wx hS hold hdep K hK
      simp only [List.getElem?_toArray, List.getElem?_cons_succ, List.getElem?_cons_zero, Option.some.injEq] at ho
      subst ho
      have HK := Lib.hid hK
      clear hK
      have d31 : a.tmps.getD 31 undef = .slice a2 (lk - p) (cc - (p + 1)) := dep_at hdep 11 rfl rfl (by kernel_rfl)
      clear hold hdep
      rw [Array.getD_eq_getD_getElem?] at d31
      rw [if_pos (by rfl)]
      go_simp
      exact HK.out _ _ ⟨_, rfl, Rd.made _ _ _⟩ (below_made _ _)
    refine OwesAll.cons (k := 13) ?_ ?_
    · intro o ho a wx hS hold hdep K hK
      simp only [List.getElem?_toArray, List.getElem?_cons_succ, List.getElem?_cons_zero, Option.some.injEq] at ho
      subst ho
      have HK := Lib.hid hK
      clear hK
      obtain ⟨a32, d32, r32⟩ : ∃ a', a.tmps.getD 32 undef = .slice a' 1 1 ∧ Rd wx a' [.slice a2 (lk - p) (cc - (p + 1))] := dep_at hdep 12 rfl rfl (by kernel_rfl)
      clear hold hdep
      rw [Array.getD_eq_getD_getElem?] at d32
      rw [if_pos (by rfl)]
      have CA := C2.out wx a32 (chain B2.out hS) r32
      clear r32
      go_simp
      go_wp2_with fail
      refine CA.mono ?_
      rintro e w9 ⟨⟨v9, rfl, h9⟩, b9⟩
      exact HK.out _ _ (out_rdFV h9 hS.size) b9
    refine OwesAll.cons (k := 14) ?_ ?_
    · intro o ho a wx hS hold hdep K hK
      simp only [List.getElem?_toArray, List.getElem?_cons_succ, List.getElem?_cons_zero, Option.some.injEq] at ho
      subst ho
      have HK := Lib.hid hK
      clear hK
      obtain ⟨a26, c26, d26, r26, l26, m26, n26⟩ : ∃ a' c', a.tmps.getD 26 undef = .slice a' X1.length c' ∧ Rd wx a' X1 ∧ X1.length ≤ c' ∧ c' ≤ maxLen ∧ ∀ x, a' = some x → w2.heap.size ≤ x.block := dep_at hdep 6 rfl rfl (by kernel_rfl)
      obtain ⟨a33, c33, d33, r33, l33, m33, n33⟩ : ∃ a' c', a.tmps.getD 33 undef = .slice a' X2.length c' ∧ Rd wx a' X2 ∧ X2.length ≤ c' ∧ c' ≤ maxLen ∧ ∀ x, a' = some x → w2.heap.size ≤ x.block := dep_at hdep 13 rfl rfl (by kernel_rfl)
      clear hold hdep
      rw [Array.getD_eq_getD_getElem?] at d26
      rw [Array.getD_eq_getD_getElem?] at d33
      rw [if_pos (by rfl)]
      go_simp
      exact HK.out _ _ ⟨_, _, _, _, rfl, r26, r33, l26, m26, l33, m33, n26, n33⟩ (Below.refl _ _)
    refine OwesAll.skip (f := 15) ?_
    exact OwesAll.nil
  case ends =>
    intro a wx hS hsz hdf hold hdone
    simp only [List.getElem?_toArray, List.getElem?_cons_succ, List.getElem?_cons_zero]
    intro K hK
    have HK := Lib.hid hK
    clear hK
    obtain ⟨xa, xb, xc, xd, dB, q1, q2, q3, q4, q5, q6, q7, q8⟩ : ∃ xa xb xc xd, a.tmps.getD 34 undef = .agg #[.bool false, .slice xa X1.length xc, .slice none 0 0, .slice xb X2.length xd] ∧ Rd wx xa X1 ∧ Rd wx xb X2 ∧ X1.length ≤ xc ∧ xc ≤ maxLen ∧ X2.length ≤ xd ∧ xd ≤ maxLen ∧ (∀ x, xa = some x → w2.heap.size ≤ x.block) ∧ ∀ x, xb = some x → w2.heap.size ≤ x.block := hdone 14 _ 34 rfl (by decide) rfl
    have dR : a.tmps.getD 4 undef = .pointer (some ⟨w.heap.size + 1, 0, none⟩) := hold 4 (unset_of (by kernel_rfl))
    have hdf' : a.defers = [] := hdf
    clear hold hdone hsz hdf
    rw [Array.getD_eq_getD_getElem?] at dB dR
    have XB := kept X.out hS
    have y0 : wx.cell? ⟨w.heap.size + 1, 0, none⟩ = some (.bool false) := by rw [Go.Joins.cell_of_block XB]; rfl
    have y1 : wx.cell? ⟨w.heap.size + 1, 1, none⟩ = some (.slice none 0 0) := by rw [Go.Joins.cell_of_block XB]; rfl
    have y2 : wx.cell? ⟨w.heap.size + 1, 2, none⟩ = some (.slice none 0 0) := by rw [Go.Joins.cell_of_block XB]; rfl
    have y3 : wx.cell? ⟨w.heap.size + 1, 3, none⟩ = some (.slice none 0 0) := by rw [Go.Joins.cell_of_block XB]; rfl
    have f0 := Go.Joins.unfrozen_of_block XB 0
    have f1 := Go.Joins.unfrozen_of_block XB 1
    have f2 := Go.Joins.unfrozen_of_block XB 2
    have f3 := Go.Joins.unfrozen_of_block XB 3
    rw [if_pos (by rfl)]
    go_simp
    refine HK.out _ _ ?_
    have B9 : Below w.heap.size w ((((wx.setCell ⟨w.heap.size + 1, 0, none⟩ (.bool false)).setCell ⟨w.heap.size + 1, 1, none⟩ (.slice xa X1.length xc)).setCell ⟨w.heap.size + 1, 2, none⟩ (.slice none 0 0)).setCell ⟨w.heap.size + 1, 3, none⟩ (.slice xb X2.length xd)) :=
      ((((chain B2.out hS).setCell (by simp) _).setCell (by simp) _).setCell (by simp) _).setCell (by simp) _
    clear y0 y1 y2 y3 f0 f1 f2 f3 HK K
    go_wp2_with fail
    have lt1 : w.heap.size + 1 < w2.heap.size := (Array.getElem?_eq_some_iff.1 X.out).1
    have FIN : Hid (NodOuB w.heap.size X1 X2 (.returned (.agg #[.bool false, .slice xa X1.length xc, .slice none 0 0, .slice xb X2.length xd])) ((((wx.setCell ⟨w.heap.size + 1, 0, none⟩ (.bool false)).setCell ⟨w.heap.size + 1, 1, none⟩ (.slice xa X1.length xc)).setCell ⟨w.heap.size + 1, 2, none⟩ (.slice none 0 0)).setCell ⟨w.heap.size + 1, 3, none⟩ (.slice xb X2.length xd))) :=
      Lib.hid ⟨_, rfl, xa, xb, xc, xd, rfl, q1.set4 _ _ _ _ _ (fun x hx => Nat.lt_of_lt_of_le lt1 (q7 x hx)), q2.set4 _ _ _ _ _ (fun x hx => Nat.lt_of_lt_of_le lt1 (q8 x hx)), q3, q4, q5, q6, fun x hx => Nat.le_trans (Nat.le_of_lt lt0) (q7 x hx), fun x hx => Nat.le_trans (Nat.le_of_lt lt0) (q8 x hx)⟩
    have XR : ((((wx.setCell ⟨w.heap.size + 1, 0, none⟩ (.bool false)).setCell ⟨w.heap.size + 1, 1, none⟩ (.slice xa X1.length xc)).setCell ⟨w.heap.size + 1, 2, none⟩ (.slice none 0 0)).setCell ⟨w.heap.size + 1, 3, none⟩ (.slice xb X2.length xd)).heap[w.heap.size + 1]? = some (.cells #[.bool false, .slice xa X1.length xc, .slice none 0 0, .slice xb X2.length xd] 26) := by
      rw [heap_setCell_same _ _ 3 _ _ _ (heap_setCell_same _ _ 2 _ _ _ (heap_setCell_same _ _ 1 _ _ _ (heap_setCell_same _ _ 0 _ _ _ XB)))]
      rfl
    generalize ((((wx.setCell ⟨w.heap.size + 1, 0, none⟩ (.bool false)).setCell ⟨w.heap.size + 1, 1, none⟩ (.slice xa X1.length xc)).setCell ⟨w.heap.size + 1, 2, none⟩ (.slice none 0 0)).setCell ⟨w.heap.size + 1, 3, none⟩ (.slice xb X2.length xd)) = wz at *
    have z0 : wz.cell? ⟨w.heap.size + 1, 0, none⟩ = some (.bool false) := by rw [Go.Joins.cell_of_block XR]; rfl
    have z1 : wz.cell? ⟨w.heap.size + 1, 1, none⟩ = some (.slice xa X1.length xc) := by rw [Go.Joins.cell_of_block XR]; rfl
    have z2 : wz.cell? ⟨w.heap.size + 1, 2, none⟩ = some (.slice none 0 0) := by rw [Go.Joins.cell_of_block XR]; rfl
    have z3 : wz.cell? ⟨w.heap.size + 1, 3, none⟩ = some (.slice xb X2.length xd) := by rw [Go.Joins.cell_of_block XR]; rfl
    exact bodyPost_ret (v := .agg #[.bool false, .slice xa X1.length xc, .slice none 0 0, .slice xb X2.length xd]) (by simp [results, Try.results43, go_sem, dR, z0, z1, z2, z3]) hdf' ⟨FIN.out, B9⟩
end Go.Proofs.Ytkdcoipbdkmieaa
