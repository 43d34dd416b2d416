/-
  Package node: Hang, Without, Unhang, ahead, behind, where they do something.
-/
import Derived.Test.YtkdcoipbdkmieaaNodeP
import Derived.IntWalk
namespace Go.Proofs.Ytkdcoipbdkmieaa
open Go.RowKit
set_option linter.unusedVariables false
set_option linter.unusedSimpArgs false
def nodSB (lo : Nat) (LK LC : List Value) : SP := ⟨fun v w => ∃ xa xb xc xd, v = .agg #[.bool false, .slice xa LK.length xc, .slice none 0 0, .slice xb LC.length xd] ∧ Rd w xa LK ∧ Rd w xb LC ∧ LK.length ≤ xc ∧ xc ≤ maxLen ∧ LC.length ≤ xd ∧ xd ≤ maxLen ∧ (∀ x, xa = some x → lo ≤ x.block) ∧ ∀ x, xb = some x → lo ≤ x.block,
  fun _ _ _ ⟨xa, xb, xc, xd, h, q1, q2, q⟩ hb => ⟨xa, xb, xc, xd, h, q1.below hb, q2.below hb, q⟩⟩
def NodOuB (lo : Nat) (LK LC : List Value) (e : Ending) (w' : World) : Prop := ∃ v, e = .returned v ∧ (nodSB lo LK LC).p v w'
set_option maxHeartbeats 3200000 in
set_option maxRecDepth 20000 in
theorem hang_yes (ak av ac a1 a2 a3 a4 : Option Addr) (ck cv cc lk lv p : Nat) (key kid : Int) (X1 X2 : List Value) (w : World)
    (WH : Hid (∀ w, Calls Try.prog 34 #[.agg #[.bool false, .slice ak lk ck, .slice av lv cv, .slice ac (lk + 1) cc]] w fun e w' => e = .returned (.bool true) ∧ Below w.heap.size w w'))
    (S1 : Hid (sliced ak 0 p ck 1 = .slice a1 p ck))
    (S2 : Hid (sliced ak p lk ck 1 = .slice a2 (lk - p) (ck - p)))
    (S3 : Hid (sliced ac 0 (p + 1) cc 1 = .slice a3 (p + 1) cc))
    (S4 : Hid (sliced ac (p + 1) (lk + 1) cc 1 = .slice a4 (lk - p) (cc - (p + 1))))
    (C1 : Hid (∀ wx a m, Below w.heap.size w wx → Rd wx a [.slice a1 p ck, .slice m 1 1, .slice a2 (lk - p) (ck - p)] → Rd wx m [.int .u64 key] → Calls Try.prog 35 #[.slice a 3 3] wx fun e w' => RowOut wx.heap.size 27 X1 e w' ∧ Below wx.heap.size wx w'))
    (C2 : Hid (∀ wx a m, Below w.heap.size w wx → Rd wx a [.slice a3 (p + 1) cc, .slice m 1 1, .slice a4 (lk - p) (cc - (p + 1))] → Rd wx m [.int .i64 kid] → Calls Try.prog 37 #[.slice a 3 3] wx fun e w' => RowOut wx.heap.size 3 X2 e w' ∧ Below wx.heap.size wx w'))
    (h1 : p ≤ lk) (h4 : lk ≤ ck) (h5 : lk + 1 ≤ cc) (h6 : lk ≤ 1000) :
    Calls Try.prog 15 #[.agg #[.bool false, .slice ak lk ck, .slice av lv cv, .slice ac (lk + 1) cc], .int .i64 (p : Int), .int .u64 key, .int .i64 kid] w fun e w' => NodOuB w.heap.size X1 X2 e w' ∧ Below w.heap.size w w' := by
  have i0 : (0 : Int) ≤ (p : Int) := by omega
  have i1 : (p : Int) ≤ 1000 := by omega
  have i2 : (p : Int) ≤ (ck : Int) := by omega
  have i3 : (p : Int) ≤ (lk : Int) := by omega
  have hw1 : Hid (IntKind.i64.wrap ((p : Int) + 1) = (p : Int) + 1) := Lib.hid (IntWalk.i64_in _ (by omega))
  have hw2 : Hid (IntKind.i64.wrap ((p : Int) + 2) = (p : Int) + 2) := Lib.hid (IntWalk.i64_in _ (by omega))
  have i4 : (p : Int) + 1 ≤ (cc : Int) := by omega
  have i5 : ¬ (lk : Int) < (p : Int) := by omega
  go_enter Try.func15, Try.ntmps15
  go_wp2_with fail
  refine (WH.out _).mono ?_
  rintro e w2 ⟨rfl, b1⟩
  have X1' := kept (heap_alloc_new (w.alloc _) _) b1
  have Y1' := kept (show ((w.alloc (.cells #[.bool false, .slice ak lk ck, .slice av lv cv, .slice ac (lk + 1) cc] 26)).alloc (.cells #[.bool false, .slice none 0 0, .slice none 0 0, .slice none 0 0] 26)).heap[w.heap.size]? = some (.cells #[.bool false, .slice ak lk ck, .slice av lv cv, .slice ac (lk + 1) cc] 26) from (heap_alloc_old _ _ (by simp)).trans (heap_alloc_new w _)) b1
  have B1 : Below w.heap.size w w2 := (((Below.refl _ _).alloc (Nat.le_refl _) _).alloc (by simp) _).trans (b1.mono (by simp; omega))
  rw [show (w.alloc (.cells #[.bool false, .slice ak lk ck, .slice av lv cv, .slice ac (lk + 1) cc] 26)).heap.size = w.heap.size + 1 from by simp] at X1'
  have lt0 : w.heap.size < w2.heap.size := (Array.getElem?_eq_some_iff.1 Y1').1
  have c0' : w2.cell? ⟨w.heap.size, 0, none⟩ = some (.bool false) := by rw [Go.Joins.cell_of_block Y1']; rfl
  have c1 : w2.cell? ⟨w.heap.size, 1, none⟩ = some (.slice ak lk ck) := by rw [Go.Joins.cell_of_block Y1']; rfl
  have c2 : w2.cell? ⟨w.heap.size, 2, none⟩ = some (.slice av lv cv) := by rw [Go.Joins.cell_of_block Y1']; rfl
  have c3 : w2.cell? ⟨w.heap.size, 3, none⟩ = some (.slice ac (lk + 1) cc) := by rw [Go.Joins.cell_of_block Y1']; rfl
  have X := Lib.hid X1'
  have B2 := Lib.hid B1
  clear b1 X1' Y1' B1
  clear WH
  go_wp2_with fail
  refine region_kit 27 55 [eqV (.pointer (some ⟨w.heap.size, 1, none⟩)), eqV (.slice ak lk ck), eqV (.int .i64 (p : Int)), eqV (.slice a1 p ck), eqV (.int .u64 key), lstV [.int .u64 key], eqV (.pointer (some ⟨w.heap.size, 1, none⟩)), eqV (.slice ak lk ck), eqV (.int .i64 (p : Int)), eqV (.slice a2 (lk - p) (ck - p)), lst3V (.slice a1 p ck) (.slice a2 (lk - p) (ck - p)) [.int .u64 key], rdFV w2.heap.size X1, eqV (.pointer (some ⟨w.heap.size, 3, none⟩)), eqV (.slice ac (lk + 1) cc), eqV (.int .i64 (p : Int)), eqV (.int .i64 ((p : Int) + 1)), eqV (.slice a3 (p + 1) cc), eqV (.int .i64 kid), lstV [.int .i64 kid], eqV (.pointer (some ⟨w.heap.size, 3, none⟩)), eqV (.slice ac (lk + 1) cc), eqV (.int .i64 (p : Int)), eqV (.int .i64 ((p : Int) + 1)), eqV (.slice a4 (lk - p) (cc - (p + 1))), lst3V (.slice a3 (p + 1) cc) (.slice a4 (lk - p) (cc - (p + 1))) [.int .i64 kid], rdFV w2.heap.size X2, nodSB w2.heap.size X1 X2, anyV] (by kernel_rfl) (by kernel_rfl) (by rfl) ?owes ?ends
  case owes =>
    refine OwesAll.cons (k := 0) ?_ ?_
    · intro o ho a wx hS hold hdep K hK
      simp only [List.getElem?_toArray, List.getElem?_cons_succ, List.getElem?_cons_zero, Option.some.injEq] at ho
      subst ho
      have HK := Lib.hid hK
      clear hK
      have d4 : a.tmps.getD 4 undef = .pointer (some ⟨w.heap.size, 0, none⟩) := hold 4 (unset_of (by kernel_rfl))
      clear hold hdep
      rw [Array.getD_eq_getD_getElem?] at d4
      rw [if_pos (by rfl)]
      go_simp
      exact HK.out _ _ rfl (Below.refl _ _)
    refine OwesAll.cons (k := 1) ?_ ?_
    · intro o ho a wx hS hold hdep K hK
      simp only [List.getElem?_toArray, List.getElem?_cons_succ, List.getElem?_cons_zero, Option.some.injEq] at ho
      subst ho
      have HK := Lib.hid hK
      clear hK
      have d28 : a.tmps.getD 28 undef = .pointer (some ⟨w.heap.size, 1, none⟩) := dep_at hdep 0 rfl rfl (by kernel_rfl)
      clear hold hdep
      rw [Array.getD_eq_getD_getElem?] at d28
      rw [if_pos (by rfl)]
      have c0 : wx.cell? ⟨w.heap.size, 1, none⟩ = some (.slice ak lk ck) := (hS.cell (p := ⟨w.heap.size, 1, none⟩) lt0).trans c1
      go_simp
      exact HK.out _ _ rfl (Below.refl _ _)
    refine OwesAll.cons (k := 2) ?_ ?_
    · intro o ho a wx hS hold hdep K hK
      simp only [List.getElem?_toArray, List.getElem?_cons_succ, List.getElem?_cons_zero, Option.some.injEq] at ho
      subst ho
      have HK := Lib.hid hK
      clear hK
      have d1 : a.tmps.getD 1 undef = .int .i64 (p : Int) := hold 1 (unset_of (by kernel_rfl))
      clear hold hdep
      rw [Array.getD_eq_getD_getElem?] at d1
      rw [if_pos (by rfl)]
      go_simp
      exact HK.out _ _ rfl (Below.refl _ _)
    refine OwesAll.cons (k := 3) ?_ ?_
    · intro o ho a wx hS hold hdep K hK
      simp only [List.getElem?_toArray, List.getElem?_cons_succ, List.getElem?_cons_zero, Option.some.injEq] at ho
      subst ho
      have HK := Lib.hid hK
      clear hK
      have d29 : a.tmps.getD 29 undef = .slice ak lk ck := dep_at hdep 1 rfl rfl (by kernel_rfl)
      have d30 : a.tmps.getD 30 undef = .int .i64 (p : Int) := dep_at hdep 2 rfl rfl (by kernel_rfl)
      clear hold hdep
      rw [Array.getD_eq_getD_getElem?] at d29
      rw [Array.getD_eq_getD_getElem?] at d30
      rw [if_pos (by rfl)]
      go_simp
      refine HK.out _ _ ?_ (Below.refl _ _)
      show _ = _
      rw [← S1.out]
      simp [sliced, add0, Addr.add]
    refine OwesAll.cons (k := 4) ?_ ?_
    · intro o ho a wx hS hold hdep K hK
      simp only [List.getElem?_toArray, List.getElem?_cons_succ, List.getElem?_cons_zero, Option.some.injEq] at ho
      subst ho
      have HK := Lib.hid hK
      clear hK
      have d2 : a.tmps.getD 2 undef = .int .u64 key := hold 2 (unset_of (by kernel_rfl))
      clear hold hdep
      rw [Array.getD_eq_getD_getElem?] at d2
      rw [if_pos (by rfl)]
      go_simp
      exact HK.out _ _ rfl (Below.refl _ _)
    refine OwesAll.cons (k := 5) ?_ ?_
    · intro o ho a wx hS hold hdep K hK
      simp only [List.getElem?_toArray, List.getElem?_cons_succ, List.getElem?_cons_zero, Option.some.injEq] at ho
      subst ho
      have HK := Lib.hid hK
      clear hK
      have d32 : a.tmps.getD 32 undef = .int .u64 key := dep_at hdep 4 rfl rfl (by kernel_rfl)
      clear hold hdep
      rw [Array.getD_eq_getD_getElem?] at d32
      rw [if_pos (by rfl)]
      go_simp
      exact HK.out _ _ ⟨_, rfl, Rd.made _ _ _⟩ (below_made _ _)
    refine OwesAll.cons (k := 6) ?_ ?_
    · intro o ho a wx hS hold hdep K hK
      simp only [List.getElem?_toArray, List.getElem?_cons_succ, List.getElem?_cons_zero, Option.some.injEq] at ho
      subst ho
      have HK := Lib.hid hK
      clear hK
      have d4 : a.tmps.getD 4 undef = .pointer (some ⟨w.heap.size, 0, none⟩) := hold 4 (unset_of (by kernel_rfl))
      clear hold hdep
      rw [Array.getD_eq_getD_getElem?] at d4
      rw [if_pos (by rfl)]
      go_simp
      exact HK.out _ _ rfl (Below.refl _ _)
    refine OwesAll.cons (k := 7) ?_ ?_
    · intro o ho a wx hS hold hdep K hK
      simp only [List.getElem?_toArray, List.getElem?_cons_succ, List.getElem?_cons_zero, Option.some.injEq] at ho
      subst ho
      have HK := Lib.hid hK
      clear hK
      have d34 : a.tmps.getD 34 undef = .pointer (some ⟨w.heap.size, 1, none⟩) := dep_at hdep 6 rfl rfl (by kernel_rfl)
      clear hold hdep
      rw [Array.getD_eq_getD_getElem?] at d34
      rw [if_pos (by rfl)]
      have c0 : wx.cell? ⟨w.heap.size, 1, none⟩ = some (.slice ak lk ck) := (hS.cell (p := ⟨w.heap.size, 1, none⟩) lt0).trans c1
      go_simp
      exact HK.out _ _ rfl (Below.refl _ _)
    refine OwesAll.cons (k := 8) ?_ ?_
    · intro o ho a wx hS hold hdep K hK
      simp only [List.getElem?_toArray, List.getElem?_cons_succ, List.getElem?_cons_zero, Option.some.injEq] at ho
      subst ho
      have HK := Lib.hid hK
      clear hK
      have d1 : a.tmps.getD 1 undef = .int .i64 (p : Int) := hold 1 (unset_of (by kernel_rfl))
      clear hold hdep
      rw [Array.getD_eq_getD_getElem?] at d1
      rw [if_pos (by rfl)]
      go_simp
      exact HK.out _ _ rfl (Below.refl _ _)
    refine OwesAll.cons (k := 9) ?_ ?_
    · intro o ho a wx hS hold hdep K hK
      simp only [List.getElem?_toArray, List.getElem?_cons_succ, List.getElem?_cons_zero, Option.some.injEq] at ho
      subst ho
      have HK := Lib.hid hK
      clear hK
      have d35 : a.tmps.getD 35 undef = .slice ak lk ck := dep_at hdep 7 rfl rfl (by kernel_rfl)
      have d36 : a.tmps.getD 36 undef = .int .i64 (p : Int) := dep_at hdep 8 rfl rfl (by kernel_rfl)
      clear hold hdep
      rw [Array.getD_eq_getD_getElem?] at d35
      rw [Array.getD_eq_getD_getElem?] at d36
      rw [if_pos (by rfl)]
      go_simp
      refine HK.out _ _ ?_ (Below.refl _ _)
      show _ = _
      rw [← S2.out]
      simp [sliced, add0, Addr.add]
    refine OwesAll.cons (k := 10) ?_ ?_
    · intro o ho a wx hS hold hdep K hK
      simp only [List.getElem?_toArray, List.getElem?_cons_succ, List.getElem?_cons_zero, Option.some.injEq] at ho
      subst ho
      have HK := Lib.hid hK
      clear hK
      have d31 : a.tmps.getD 31 undef = .slice a1 p ck := dep_at hdep 3 rfl rfl (by kernel_rfl)
      obtain ⟨a33, d33, r33⟩ : ∃ a', a.tmps.getD 33 undef = .slice a' 1 1 ∧ Rd wx a' [.int .u64 key] := dep_at hdep 5 rfl rfl (by kernel_rfl)
      have d37 : a.tmps.getD 37 undef = .slice a2 (lk - p) (ck - p) := dep_at hdep 9 rfl rfl (by kernel_rfl)
      clear hold hdep
      rw [Array.getD_eq_getD_getElem?] at d31
      rw [Array.getD_eq_getD_getElem?] at d33
      rw [Array.getD_eq_getD_getElem?] at d37
      rw [if_pos (by rfl)]
      go_simp
      exact HK.out _ _ ⟨_, a33, rfl, Rd.made _ _ _, r33.below (below_made _ _)⟩ (below_made _ _)
    refine OwesAll.cons (k := 11) ?_ ?_
    · intro o ho a wx hS hold hdep K hK
      simp only [List.getElem?_toArray, List.getElem?_cons_succ, List.getElem?_cons_zero, Option.some.injEq] at ho
      subst ho
      have HK := Lib.hid hK
      clear hK
      obtain ⟨a38, m38, d38, r38, s38⟩ : ∃ a' a5, a.tmps.getD 38 undef = .slice a' 3 3 ∧ Rd wx a' [.slice a1 p ck, .slice a5 1 1, .slice a2 (lk - p) (ck - p)] ∧ Rd wx a5 [.int .u64 key] := dep_at hdep 10 rfl rfl (by kernel_rfl)
      clear hold hdep
      rw [Array.getD_eq_getD_getElem?] at d38
      rw [if_pos (by rfl)]
      have CA := C1.out wx a38 m38 (chain B2.out hS) r38 s38
      clear r38 s38
      go_simp
      go_wp2_with fail
      refine CA.mono ?_
      rintro e w9 ⟨⟨v9, rfl, h9⟩, b9⟩
      exact HK.out _ _ (out_rdFV h9 hS.size) b9
    refine OwesAll.cons (k := 12) ?_ ?_
    · intro o ho a wx hS hold hdep K hK
      simp only [List.getElem?_toArray, List.getElem?_cons_succ, List.getElem?_cons_zero, Option.some.injEq] at ho
      subst ho
      have HK := Lib.hid hK
      clear hK
      have d4 : a.tmps.getD 4 undef = .pointer (some ⟨w.heap.size, 0, none⟩) := hold 4 (unset_of (by kernel_rfl))
      clear hold hdep
      rw [Array.getD_eq_getD_getElem?] at d4
      rw [if_pos (by rfl)]
      go_simp
      exact HK.out _ _ rfl (Below.refl _ _)
    refine OwesAll.cons (k := 13) ?_ ?_
    · intro o ho a wx hS hold hdep K hK
      simp only [List.getElem?_toArray, List.getElem?_cons_succ, List.getElem?_cons_zero, Option.some.injEq] at ho
      subst ho
      have HK := Lib.hid hK
      clear hK
      have d40 : a.tmps.getD 40 undef = .pointer (some ⟨w.heap.size, 3, none⟩) := dep_at hdep 12 rfl rfl (by kernel_rfl)
      clear hold hdep
      rw [Array.getD_eq_getD_getElem?] at d40
      rw [if_pos (by rfl)]
      have c0 : wx.cell? ⟨w.heap.size, 3, none⟩ = some (.slice ac (lk + 1) cc) := (hS.cell (p := ⟨w.heap.size, 3, none⟩) lt0).trans c3
      go_simp
      exact HK.out _ _ rfl (Below.refl _ _)
    refine OwesAll.cons (k := 14) ?_ ?_
    · intro o ho a wx hS hold hdep K hK
      simp only [List.getElem?_toArray, List.getElem?_cons_succ, List.getElem?_cons_zero, Option.some.injEq] at ho
      subst ho
      have HK := Lib.hid hK
      clear hK
      have d1 : a.tmps.getD 1 undef = .int .i64 (p : Int) := hold 1 (unset_of (by kernel_rfl))
      clear hold hdep
      rw [Array.getD_eq_getD_getElem?] at d1
      rw [if_pos (by rfl)]
      go_simp
      exact HK.out _ _ rfl (Below.refl _ _)
    refine OwesAll.cons (k := 15) ?_ ?_
    · intro o ho a wx hS hold hdep K hK
      simp only [List.getElem?_toArray, List.getElem?_cons_succ, List.getElem?_cons_zero, Option.some.injEq] at ho
      subst ho
      have HK := Lib.hid hK
      clear hK
      have d42 : a.tmps.getD 42 undef = .int .i64 (p : Int) := dep_at hdep 14 rfl rfl (by kernel_rfl)
      clear hold hdep
      rw [Array.getD_eq_getD_getElem?] at d42
      rw [if_pos (by rfl)]
      go_simp
      refine HK.out _ _ ?_ (Below.refl _ _)
      show _ = _
      first | rfl | rw [hw1.out]
    refine OwesAll.cons (k := 16) ?_ ?_
    · intro o ho a wx hS hold hdep K hK
      simp only [List.getElem?_toArray, List.getElem?_cons_succ, List.getElem?_cons_zero, Option.some.injEq] at ho
      subst ho
      have HK := Lib.hid hK
      clear hK
      have d41 : a.tmps.getD 41 undef = .slice ac (lk + 1) cc := dep_at hdep 13 rfl rfl (by kernel_rfl)
      have d43 : a.tmps.getD 43 undef = .int .i64 ((p : Int) + 1) := dep_at hdep 15 rfl rfl (by kernel_rfl)
      clear hold hdep
      rw [Array.getD_eq_getD_getElem?] at d41
      rw [Array.getD_eq_getD_getElem?] at d43
      rw [if_pos (by rfl)]
      go_simp
      refine HK.out _ _ ?_ (Below.refl _ _)
      show _ = _
      rw [← S3.out]
      simp [sliced, add0, Addr.add]
    refine OwesAll.cons (k := 17) ?_ ?_
    · intro o ho a wx hS hold hdep K hK
      simp only [List.getElem?_toArray, List.getElem?_cons_succ, List.getElem?_cons_zero, Option.some.injEq] at ho
      subst ho
      have HK := Lib.hid hK
      clear hK
      have d3 : a.tmps.getD 3 undef = .int .i64 kid := hold 3 (unset_of (by kernel_rfl))
      clear hold hdep
      rw [Array.getD_eq_getD_getElem?] at d3
      rw [if_pos (by rfl)]
      go_simp
      exact HK.out _ _ rfl (Below.refl _ _)
    refine OwesAll.cons (k := 18) ?_ ?_
    · intro o ho a wx hS hold hdep K hK
      simp only [List.getElem?_toArray, List.getElem?_cons_succ, List.getElem?_cons_zero, Option.some.injEq] at ho
      subst ho
      have HK := Lib.hid hK
      clear hK
      have d45 : a.tmps.getD 45 undef = .int .i64 kid := dep_at hdep 17 rfl rfl (by kernel_rfl)
      clear hold hdep
      rw [Array.getD_eq_getD_getElem?] at d45
      rw [if_pos (by rfl)]
      go_simp
      exact HK.out _ _ ⟨_, rfl, Rd.made _ _ _⟩ (below_made _ _)
    refine OwesAll.cons (k := 19) ?_ ?_
    · intro o ho a wx hS hold hdep K hK
      simp only [List.getElem?_toArray, List.getElem?_cons_succ, List.getElem?_cons_zero, Option.some.injEq] at ho
      subst ho
      have HK := Lib.hid hK
      clear hK
      have d4 : a.tmps.getD 4 undef = .pointer (some ⟨w.heap.size, 0, none⟩) := hold 4 (unset_of (by kernel_rfl))
      clear hold hdep
      rw [Array.getD_eq_getD_getElem?] at d4
      rw [if_pos (by rfl)]
      go_simp
      exact HK.out _ _ rfl (Below.refl _ _)
    refine OwesAll.cons (k := 20) ?_ ?_
    · intro o ho a wx hS hold hdep K hK
      simp only [List.getElem?_toArray, List.getElem?_cons_succ, List.getElem?_cons_zero, Option.some.injEq] at ho
      subst ho
      have HK := Lib.hid hK
      clear hK
      have d47 : a.tmps.getD 47 undef = .pointer (some ⟨w.heap.size, 3, none⟩) := dep_at hdep 19 rfl rfl (by kernel_rfl)
      clear hold hdep
      rw [Array.getD_eq_getD_getElem?] at d47
      rw [if_pos (by rfl)]
      have c0 : wx.cell? ⟨w.heap.size, 3, none⟩ = some (.slice ac (lk + 1) cc) := (hS.cell (p := ⟨w.heap.size, 3, none⟩) lt0).trans c3
      go_simp
      exact HK.out _ _ rfl (Below.refl _ _)
    refine OwesAll.cons (k := 21) ?_ ?_
    · intro o ho a wx hS hold hdep K hK
      simp only [List.getElem?_toArray, List.getElem?_cons_succ, List.getElem?_cons_zero, Option.some.injEq] at ho
      subst ho
      have HK := Lib.hid hK
      clear hK
      have d1 : a.tmps.getD 1 undef = .int .i64 (p : Int) := hold 1 (unset_of (by kernel_rfl))
      clear hold hdep
      rw [Array.getD_eq_getD_getElem?] at d1
      rw [if_pos (by rfl)]
      go_simp
      exact HK.out _ _ rfl (Below.refl _ _)
    refine OwesAll.cons (k := 22) ?_ ?_
    · intro o ho a wx hS hold hdep K hK
      simp only [List.getElem?_toArray, List.getElem?_cons_succ, List.getElem?_cons_zero, Option.some.injEq] at ho
      subst ho
      have HK := Lib.hid hK
      clear hK
      have d49 : a.tmps.getD 49 undef = .int .i64 (p : Int) := dep_at hdep 21 rfl rfl (by kernel_rfl)
      clear hold hdep
      rw [Array.getD_eq_getD_getElem?] at d49
      rw [if_pos (by rfl)]
      go_simp
      refine HK.out _ _ ?_ (Below.refl _ _)
      show _ = _
      first | rfl | rw [hw1.out]
    refine OwesAll.cons (k := 23) ?_ ?_
    · intro o ho a wx hS hold hdep K hK
      simp only [List.getElem?_toArray, List.getElem?_cons_succ, List.getElem?_cons_zero, Option.some.injEq] at ho
      subst ho
      have HK := Lib.hid hK
      clear hK
      have d48 : a.tmps.getD 48 undef = .slice ac (lk + 1) cc := dep_at hdep 20 rfl rfl (by kernel_rfl)
      have d50 : a.tmps.getD 50 undef = .int .i64 ((p : Int) + 1) := dep_at hdep 22 rfl rfl (by kernel_rfl)
      clear hold hdep
      rw [Array.getD_eq_getD_getElem?] at d48
      rw [Array.getD_eq_getD_getElem?] at d50
      rw [if_pos (by rfl)]
      go_simp
      refine HK.out _ _ ?_ (Below.refl _ _)
      show _ = _
      rw [← S4.out]
      simp [sliced, add0, Addr.add]
    refine OwesAll.cons (k := 24) ?_ ?_
    · intro o ho a wx hS hold hdep K hK
      simp only [List.getElem?_toArray, List.getElem?_cons_succ, List.getElem?_cons_zero, Option.some.injEq] at ho
      subst ho
      have HK := Lib.hid hK
      clear hK
      have d44 : a.tmps.getD 44 undef = .slice a3 (p + 1) cc := dep_at hdep 16 rfl rfl (by kernel_rfl)
      obtain ⟨a46, d46, r46⟩ : ∃ a', a.tmps.getD 46 undef = .slice a' 1 1 ∧ Rd wx a' [.int .i64 kid] := dep_at hdep 18 rfl rfl (by kernel_rfl)
      have d51 : a.tmps.getD 51 undef = .slice a4 (lk - p) (cc - (p + 1)) := dep_at hdep 23 rfl rfl (by kernel_rfl)
      clear hold hdep
      rw [Array.getD_eq_getD_getElem?] at d44
      rw [Array.getD_eq_getD_getElem?] at d46
      rw [Array.getD_eq_getD_getElem?] at d51
      rw [if_pos (by rfl)]
      go_simp
      exact HK.out _ _ ⟨_, a46, rfl, Rd.made _ _ _, r46.below (below_made _ _)⟩ (below_made _ _)
    refine OwesAll.cons (k := 25) ?_ ?_
    · intro o ho a wx hS hold hdep K hK
      simp only [List.getElem?_toArray, List.getElem?_cons_succ, List.getElem?_cons_zero, Option.some.injEq] at ho
      subst ho
      have HK := Lib.hid hK
      clear hK
      obtain ⟨a52, m52, d52, r52, s52⟩ : ∃ a' a5, a.tmps.getD 52 undef = .slice a' 3 3 ∧ Rd wx a' [.slice a3 (p + 1) cc, .slice a5 1 1, .slice a4 (lk - p) (cc - (p + 1))] ∧ Rd wx a5 [.int .i64 kid] := dep_at hdep 24 rfl rfl (by kernel_rfl)
      clear hold hdep
      rw [Array.getD_eq_getD_getElem?] at d52
      rw [if_pos (by rfl)]
      have CA := C2.out wx a52 m52 (chain B2.out hS) r52 s52
      clear r52 s52
      go_simp
      go_wp2_with fail
      refine CA.mono ?_
      rintro e w9 ⟨⟨v9, rfl, h9⟩, b9⟩
      exact HK.out _ _ (out_rdFV h9 hS.size) b9
    refine OwesAll.cons (k := 26) ?_ ?_
    · intro o ho a wx hS hold hdep K hK
      simp only [List.getElem?_toArray, List.getElem?_cons_succ, List.getElem?_cons_zero, Option.some.injEq] at ho
      subst ho
      have HK := Lib.hid hK
      clear hK
      obtain ⟨a39, c39, d39, r39, l39, m39, n39⟩ : ∃ a' c', a.tmps.getD 39 undef = .slice a' X1.length c' ∧ Rd wx a' X1 ∧ X1.length ≤ c' ∧ c' ≤ maxLen ∧ ∀ x, a' = some x → w2.heap.size ≤ x.block := dep_at hdep 11 rfl rfl (by kernel_rfl)
      obtain ⟨a53, c53, d53, r53, l53, m53, n53⟩ : ∃ a' c', a.tmps.getD 53 undef = .slice a' X2.length c' ∧ Rd wx a' X2 ∧ X2.length ≤ c' ∧ c' ≤ maxLen ∧ ∀ x, a' = some x → w2.heap.size ≤ x.block := dep_at hdep 25 rfl rfl (by kernel_rfl)
      clear hold hdep
      rw [Array.getD_eq_getD_getElem?] at d39
      rw [Array.getD_eq_getD_getElem?] at d53
      rw [if_pos (by rfl)]
      go_simp
      exact HK.out _ _ ⟨_, _, _, _, rfl, r39, r53, l39, m39, l53, m53, n39, n53⟩ (Below.refl _ _)
    refine OwesAll.skip (f := 27) ?_
    exact OwesAll.nil
  case ends =>
    intro a wx hS hsz hdf hold hdone
    simp only [List.getElem?_toArray, List.getElem?_cons_succ, List.getElem?_cons_zero]
    intro K hK
    have HK := Lib.hid hK
    clear hK
    obtain ⟨xa, xb, xc, xd, dB, q1, q2, q3, q4, q5, q6, q7, q8⟩ : ∃ xa xb xc xd, a.tmps.getD 54 undef = .agg #[.bool false, .slice xa X1.length xc, .slice none 0 0, .slice xb X2.length xd] ∧ Rd wx xa X1 ∧ Rd wx xb X2 ∧ X1.length ≤ xc ∧ xc ≤ maxLen ∧ X2.length ≤ xd ∧ xd ≤ maxLen ∧ (∀ x, xa = some x → w2.heap.size ≤ x.block) ∧ ∀ x, xb = some x → w2.heap.size ≤ x.block := hdone 26 _ 54 rfl (by decide) rfl
    have dR : a.tmps.getD 8 undef = .pointer (some ⟨w.heap.size + 1, 0, none⟩) := hold 8 (unset_of (by kernel_rfl))
    have hdf' : a.defers = [] := hdf
    clear hold hdone hsz hdf
    rw [Array.getD_eq_getD_getElem?] at dB dR
    have XB := kept X.out hS
    have y0 : wx.cell? ⟨w.heap.size + 1, 0, none⟩ = some (.bool false) := by rw [Go.Joins.cell_of_block XB]; rfl
    have y1 : wx.cell? ⟨w.heap.size + 1, 1, none⟩ = some (.slice none 0 0) := by rw [Go.Joins.cell_of_block XB]; rfl
    have y2 : wx.cell? ⟨w.heap.size + 1, 2, none⟩ = some (.slice none 0 0) := by rw [Go.Joins.cell_of_block XB]; rfl
    have y3 : wx.cell? ⟨w.heap.size + 1, 3, none⟩ = some (.slice none 0 0) := by rw [Go.Joins.cell_of_block XB]; rfl
    have f0 := Go.Joins.unfrozen_of_block XB 0
    have f1 := Go.Joins.unfrozen_of_block XB 1
    have f2 := Go.Joins.unfrozen_of_block XB 2
    have f3 := Go.Joins.unfrozen_of_block XB 3
    rw [if_pos (by rfl)]
    go_simp
    refine HK.out _ _ ?_
    have B9 : Below w.heap.size w ((((wx.setCell ⟨w.heap.size + 1, 0, none⟩ (.bool false)).setCell ⟨w.heap.size + 1, 1, none⟩ (.slice xa X1.length xc)).setCell ⟨w.heap.size + 1, 2, none⟩ (.slice none 0 0)).setCell ⟨w.heap.size + 1, 3, none⟩ (.slice xb X2.length xd)) :=
      ((((chain B2.out hS).setCell (by simp) _).setCell (by simp) _).setCell (by simp) _).setCell (by simp) _
    clear y0 y1 y2 y3 f0 f1 f2 f3 HK K
    go_wp2_with fail
    have lt1 : w.heap.size + 1 < w2.heap.size := (Array.getElem?_eq_some_iff.1 X.out).1
    have FIN : Hid (NodOuB w.heap.size X1 X2 (.returned (.agg #[.bool false, .slice xa X1.length xc, .slice none 0 0, .slice xb X2.length xd])) ((((wx.setCell ⟨w.heap.size + 1, 0, none⟩ (.bool false)).setCell ⟨w.heap.size + 1, 1, none⟩ (.slice xa X1.length xc)).setCell ⟨w.heap.size + 1, 2, none⟩ (.slice none 0 0)).setCell ⟨w.heap.size + 1, 3, none⟩ (.slice xb X2.length xd))) :=
      Lib.hid ⟨_, rfl, xa, xb, xc, xd, rfl, q1.set4 _ _ _ _ _ (fun x hx => Nat.lt_of_lt_of_le lt1 (q7 x hx)), q2.set4 _ _ _ _ _ (fun x hx => Nat.lt_of_lt_of_le lt1 (q8 x hx)), q3, q4, q5, q6, fun x hx => Nat.le_trans (Nat.le_of_lt lt0) (q7 x hx), fun x hx => Nat.le_trans (Nat.le_of_lt lt0) (q8 x hx)⟩
    have XR : ((((wx.setCell ⟨w.heap.size + 1, 0, none⟩ (.bool false)).setCell ⟨w.heap.size + 1, 1, none⟩ (.slice xa X1.length xc)).setCell ⟨w.heap.size + 1, 2, none⟩ (.slice none 0 0)).setCell ⟨w.heap.size + 1, 3, none⟩ (.slice xb X2.length xd)).heap[w.heap.size + 1]? = some (.cells #[.bool false, .slice xa X1.length xc, .slice none 0 0, .slice xb X2.length xd] 26) := by
      rw [heap_setCell_same _ _ 3 _ _ _ (heap_setCell_same _ _ 2 _ _ _ (heap_setCell_same _ _ 1 _ _ _ (heap_setCell_same _ _ 0 _ _ _ XB)))]
      rfl
    generalize ((((wx.setCell ⟨w.heap.size + 1, 0, none⟩ (.bool false)).setCell ⟨w.heap.size + 1, 1, none⟩ (.slice xa X1.length xc)).setCell ⟨w.heap.size + 1, 2, none⟩ (.slice none 0 0)).setCell ⟨w.heap.size + 1, 3, none⟩ (.slice xb X2.length xd)) = wz at *
    have z0 : wz.cell? ⟨w.heap.size + 1, 0, none⟩ = some (.bool false) := by rw [Go.Joins.cell_of_block XR]; rfl
    have z1 : wz.cell? ⟨w.heap.size + 1, 1, none⟩ = some (.slice xa X1.length xc) := by rw [Go.Joins.cell_of_block XR]; rfl
    have z2 : wz.cell? ⟨w.heap.size + 1, 2, none⟩ = some (.slice none 0 0) := by rw [Go.Joins.cell_of_block XR]; rfl
    have z3 : wz.cell? ⟨w.heap.size + 1, 3, none⟩ = some (.slice xb X2.length xd) := by rw [Go.Joins.cell_of_block XR]; rfl
    exact bodyPost_ret (v := .agg #[.bool false, .slice xa X1.length xc, .slice none 0 0, .slice xb X2.length xd]) (by simp [results, Try.results15, go_sem, dR, z0, z1, z2, z3]) hdf' ⟨FIN.out, B9⟩
set_option maxHeartbeats 3200000 in
set_option maxRecDepth 20000 in
theorem without_yes (ak av ac a1 a2 a3 a4 : Option Addr) (ck cv cc lk lc p : Nat) (X1 X2 : List Value) (w : World)
    (WH : Hid (∀ w, Calls Try.prog 34 #[.agg #[.bool true, .slice ak lk ck, .slice av lk cv, .slice ac lc cc]] w fun e w' => e = .returned (.bool true) ∧ Below w.heap.size w w'))
    (S1 : Hid (sliced ak 0 p ck 1 = .slice a1 p ck))
    (S2 : Hid (sliced ak (p + 1) lk ck 1 = .slice a2 (lk - (p + 1)) (ck - (p + 1))))
    (S3 : Hid (sliced av 0 p cv 1 = .slice a3 p cv))
    (S4 : Hid (sliced av (p + 1) lk cv 1 = .slice a4 (lk - (p + 1)) (cv - (p + 1))))
    (C1 : Hid (∀ wx a, Below w.heap.size w wx → Rd wx a [.slice a1 p ck, .slice a2 (lk - (p + 1)) (ck - (p + 1))] → Calls Try.prog 35 #[.slice a 2 2] wx fun e w' => RowOut wx.heap.size 27 X1 e w' ∧ Below wx.heap.size wx w'))
    (C2 : Hid (∀ wx a, Below w.heap.size w wx → Rd wx a [.slice a3 p cv, .slice a4 (lk - (p + 1)) (cv - (p + 1))] → Calls Try.prog 36 #[.slice a 2 2] wx fun e w' => RowOut wx.heap.size 9 X2 e w' ∧ Below wx.heap.size wx w'))
    (h1 : p + 1 ≤ lk) (h4 : lk ≤ ck) (h5 : lk ≤ cv) (h6 : lk ≤ 1000) :
    Calls Try.prog 14 #[.agg #[.bool true, .slice ak lk ck, .slice av lk cv, .slice ac lc cc], .int .i64 (p : Int)] w fun e w' => NodOut w.heap.size X1 X2 e w' ∧ Below w.heap.size w w' := by
  have i0 : (0 : Int) ≤ (p : Int) := by omega
  have i1 : (p : Int) ≤ 1000 := by omega
  have i2 : (p : Int) ≤ (ck : Int) := by omega
  have i3 : (p : Int) ≤ (lk : Int) := by omega
  have hw1 : Hid (IntKind.i64.wrap ((p : Int) + 1) = (p : Int) + 1) := Lib.hid (IntWalk.i64_in _ (by omega))
  have hw2 : Hid (IntKind.i64.wrap ((p : Int) + 2) = (p : Int) + 2) := Lib.hid (IntWalk.i64_in _ (by omega))
  have i4 : (p : Int) + 1 ≤ (lk : Int) := by omega
  have i5 : (p : Int) < (lk : Int) := by omega
  have i6 : (p : Int) ≤ (cv : Int) := by omega
  go_enter Try.func14, Try.ntmps14
  go_wp2_with fail
  refine (WH.out _).mono ?_
  rintro e w2 ⟨rfl, b1⟩
  have X1' := kept (heap_alloc_new (w.alloc _) _) b1
  have Y1' := kept (show ((w.alloc (.cells #[.bool true, .slice ak lk ck, .slice av lk cv, .slice ac lc cc] 26)).alloc (.cells #[.bool false, .slice none 0 0, .slice none 0 0, .slice none 0 0] 26)).heap[w.heap.size]? = some (.cells #[.bool true, .slice ak lk ck, .slice av lk cv, .slice ac lc cc] 26) from (heap_alloc_old _ _ (by simp)).trans (heap_alloc_new w _)) b1
  have B1 : Below w.heap.size w w2 := (((Below.refl _ _).alloc (Nat.le_refl _) _).alloc (by simp) _).trans (b1.mono (by simp; omega))
  rw [show (w.alloc (.cells #[.bool true, .slice ak lk ck, .slice av lk cv, .slice ac lc cc] 26)).heap.size = w.heap.size + 1 from by simp] at X1'
  have lt0 : w.heap.size < w2.heap.size := (Array.getElem?_eq_some_iff.1 Y1').1
  have c0' : w2.cell? ⟨w.heap.size, 0, none⟩ = some (.bool true) := by rw [Go.Joins.cell_of_block Y1']; rfl
  have c1 : w2.cell? ⟨w.heap.size, 1, none⟩ = some (.slice ak lk ck) := by rw [Go.Joins.cell_of_block Y1']; rfl
  have c2 : w2.cell? ⟨w.heap.size, 2, none⟩ = some (.slice av lk cv) := by rw [Go.Joins.cell_of_block Y1']; rfl
  have c3 : w2.cell? ⟨w.heap.size, 3, none⟩ = some (.slice ac lc cc) := by rw [Go.Joins.cell_of_block Y1']; rfl
  have X := Lib.hid X1'
  have B2 := Lib.hid B1
  clear b1 X1' Y1' B1
  clear WH
  go_wp2_with fail
  refine region_kit 23 48 [eqV (.pointer (some ⟨w.heap.size, 1, none⟩)), eqV (.slice ak lk ck), eqV (.int .i64 (p : Int)), eqV (.slice a1 p ck), eqV (.pointer (some ⟨w.heap.size, 1, none⟩)), eqV (.slice ak lk ck), eqV (.int .i64 (p : Int)), eqV (.int .i64 ((p : Int) + 1)), eqV (.slice a2 (lk - (p + 1)) (ck - (p + 1))), lstV [.slice a1 p ck, .slice a2 (lk - (p + 1)) (ck - (p + 1))], rdFV w2.heap.size X1, eqV (.pointer (some ⟨w.heap.size, 2, none⟩)), eqV (.slice av lk cv), eqV (.int .i64 (p : Int)), eqV (.slice a3 p cv), eqV (.pointer (some ⟨w.heap.size, 2, none⟩)), eqV (.slice av lk cv), eqV (.int .i64 (p : Int)), eqV (.int .i64 ((p : Int) + 1)), eqV (.slice a4 (lk - (p + 1)) (cv - (p + 1))), lstV [.slice a3 p cv, .slice a4 (lk - (p + 1)) (cv - (p + 1))], rdFV w2.heap.size X2, nodSP w2.heap.size X1 X2, anyV] (by kernel_rfl) (by kernel_rfl) (by rfl) ?owes ?ends
  case owes =>
    refine OwesAll.cons (k := 0) ?_ ?_
    · intro o ho a wx hS hold hdep K hK
      simp only [List.getElem?_toArray, List.getElem?_cons_succ, List.getElem?_cons_zero, Option.some.injEq] at ho
      subst ho
      have HK := Lib.hid hK
      clear hK
      have d2 : a.tmps.getD 2 undef = .pointer (some ⟨w.heap.size, 0, none⟩) := hold 2 (unset_of (by kernel_rfl))
      clear hold hdep
      rw [Array.getD_eq_getD_getElem?] at d2
      rw [if_pos (by rfl)]
      go_simp
      exact HK.out _ _ rfl (Below.refl _ _)
    refine OwesAll.cons (k := 1) ?_ ?_
    · intro o ho a wx hS hold hdep K hK
      simp only [List.getElem?_toArray, List.getElem?_cons_succ, List.getElem?_cons_zero, Option.some.injEq] at ho
      subst ho
      have HK := Lib.hid hK
      clear hK
      have d25 : a.tmps.getD 25 undef = .pointer (some ⟨w.heap.size, 1, none⟩) := dep_at hdep 0 rfl rfl (by kernel_rfl)
      clear hold hdep
      rw [Array.getD_eq_getD_getElem?] at d25
      rw [if_pos (by rfl)]
      have c0 : wx.cell? ⟨w.heap.size, 1, none⟩ = some (.slice ak lk ck) := (hS.cell (p := ⟨w.heap.size, 1, none⟩) lt0).trans c1
      go_simp
      exact HK.out _ _ rfl (Below.refl _ _)
    refine OwesAll.cons (k := 2) ?_ ?_
    · intro o ho a wx hS hold hdep K hK
      simp only [List.getElem?_toArray, List.getElem?_cons_succ, List.getElem?_cons_zero, Option.some.injEq] at ho
      subst ho
      have HK := Lib.hid hK
      clear hK
      have d1 : a.tmps.getD 1 undef = .int .i64 (p : Int) := hold 1 (unset_of (by kernel_rfl))
      clear hold hdep
      rw [Array.getD_eq_getD_getElem?] at d1
      rw [if_pos (by rfl)]
      go_simp
      exact HK.out _ _ rfl (Below.refl _ _)
    refine OwesAll.cons (k := 3) ?_ ?_
    · intro o ho a wx hS hold hdep K hK
      simp only [List.getElem?_toArray, List.getElem?_cons_succ, List.getElem?_cons_zero, Option.some.injEq] at ho
      subst ho
      have HK := Lib.hid hK
      clear hK
      have d26 : a.tmps.getD 26 undef = .slice ak lk ck := dep_at hdep 1 rfl rfl (by kernel_rfl)
      have d27 : a.tmps.getD 27 undef = .int .i64 (p : Int) := dep_at hdep 2 rfl rfl (by kernel_rfl)
      clear hold hdep
      rw [Array.getD_eq_getD_getElem?] at d26
      rw [Array.getD_eq_getD_getElem?] at d27
      rw [if_pos (by rfl)]
      go_simp
      refine HK.out _ _ ?_ (Below.refl _ _)
      show _ = _
      rw [← S1.out]
      simp [sliced, add0, Addr.add]
    refine OwesAll.cons (k := 4) ?_ ?_
    · intro o ho a wx hS hold hdep K hK
      simp only [List.getElem?_toArray, List.getElem?_cons_succ, List.getElem?_cons_zero, Option.some.injEq] at ho
      subst ho
      have HK := Lib.hid hK
      clear hK
      have d2 : a.tmps.getD 2 undef = .pointer (some ⟨w.heap.size, 0, none⟩) := hold 2 (unset_of (by kernel_rfl))
      clear hold hdep
      rw [Array.getD_eq_getD_getElem?] at d2
      rw [if_pos (by rfl)]
      go_simp
      exact HK.out _ _ rfl (Below.refl _ _)
    refine OwesAll.cons (k := 5) ?_ ?_
    · intro o ho a wx hS hold hdep K hK
      simp only [List.getElem?_toArray, List.getElem?_cons_succ, List.getElem?_cons_zero, Option.some.injEq] at ho
      subst ho
      have HK := Lib.hid hK
      clear hK
      have d29 : a.tmps.getD 29 undef = .pointer (some ⟨w.heap.size, 1, none⟩) := dep_at hdep 4 rfl rfl (by kernel_rfl)
      clear hold hdep
      rw [Array.getD_eq_getD_getElem?] at d29
      rw [if_pos (by rfl)]
      have c0 : wx.cell? ⟨w.heap.size, 1, none⟩ = some (.slice ak lk ck) := (hS.cell (p := ⟨w.heap.size, 1, none⟩) lt0).trans c1
      go_simp
      exact HK.out _ _ rfl (Below.refl _ _)
    refine OwesAll.cons (k := 6) ?_ ?_
    · intro o ho a wx hS hold hdep K hK
      simp only [List.getElem?_toArray, List.getElem?_cons_succ, List.getElem?_cons_zero, Option.some.injEq] at ho
      subst ho
      have HK := Lib.hid hK
      clear hK
      have d1 : a.tmps.getD 1 undef = .int .i64 (p : Int) := hold 1 (unset_of (by kernel_rfl))
      clear hold hdep
      rw [Array.getD_eq_getD_getElem?] at d1
      rw [if_pos (by rfl)]
      go_simp
      exact HK.out _ _ rfl (Below.refl _ _)
    refine OwesAll.cons (k := 7) ?_ ?_
    · intro o ho a wx hS hold hdep K hK
      simp only [List.getElem?_toArray, List.getElem?_cons_succ, List.getElem?_cons_zero, Option.some.injEq] at ho
      subst ho
      have HK := Lib.hid hK
      clear hK
      have d31 : a.tmps.getD 31 undef = .int .i64 (p : Int) := dep_at hdep 6 rfl rfl (by kernel_rfl)
      clear hold hdep
      rw [Array.getD_eq_getD_getElem?] at d31
      rw [if_pos (by rfl)]
      go_simp
      refine HK.out _ _ ?_ (Below.refl _ _)
      show _ = _
      first | rfl | rw [hw1.out]
    refine OwesAll.cons (k := 8) ?_ ?_
    · intro o ho a wx hS hold hdep K hK
      simp only [List.getElem?_toArray, List.getElem?_cons_succ, List.getElem?_cons_zero, Option.some.injEq] at ho
      subst ho
      have HK := Lib.hid hK
      clear hK
      have d30 : a.tmps.getD 30 undef = .slice ak lk ck := dep_at hdep 5 rfl rfl (by kernel_rfl)
      have d32 : a.tmps.getD 32 undef = .int .i64 ((p : Int) + 1) := dep_at hdep 7 rfl rfl (by kernel_rfl)
      clear hold hdep
      rw [Array.getD_eq_getD_getElem?] at d30
      rw [Array.getD_eq_getD_getElem?] at d32
      rw [if_pos (by rfl)]
      go_simp
      refine HK.out _ _ ?_ (Below.refl _ _)
      show _ = _
      rw [← S2.out]
      simp [sliced, add0, Addr.add]
    refine OwesAll.cons (k := 9) ?_ ?_
    · intro o ho a wx hS hold hdep K hK
      simp only [List.getElem?_toArray, List.getElem?_cons_succ, List.getElem?_cons_zero, Option.some.injEq] at ho
      subst ho
      have HK := Lib.hid hK
      clear hK
      have d28 : a.tmps.getD 28 undef = .slice a1 p ck := dep_at hdep 3 rfl rfl (by kernel_rfl)
      have d33 : a.tmps.getD 33 undef = .slice a2 (lk - (p + 1)) (ck - (p + 1)) := dep_at hdep 8 rfl rfl (by kernel_rfl)
      clear hold hdep
      rw [Array.getD_eq_getD_getElem?] at d28
      rw [Array.getD_eq_getD_getElem?] at d33
      rw [if_pos (by rfl)]
      go_simp
      exact HK.out _ _ ⟨_, rfl, Rd.made _ _ _⟩ (below_made _ _)
    refine OwesAll.cons (k := 10) ?_ ?_
    · intro o ho a wx hS hold hdep K hK
      simp only [List.getElem?_toArray, List.getElem?_cons_succ, List.getElem?_cons_zero, Option.some.injEq] at ho
      subst ho
      have HK := Lib.hid hK
      clear hK
      obtain ⟨a34, d34, r34⟩ : ∃ a', a.tmps.getD 34 undef = .slice a' 2 2 ∧ Rd wx a' [.slice a1 p ck, .slice a2 (lk - (p + 1)) (ck - (p + 1))] := dep_at hdep 9 rfl rfl (by kernel_rfl)
      clear hold hdep
      rw [Array.getD_eq_getD_getElem?] at d34
      rw [if_pos (by rfl)]
      have CA := C1.out wx a34 (chain B2.out hS) r34
      clear r34
      go_simp
      go_wp2_with fail
      refine CA.mono ?_
      rintro e w9 ⟨⟨v9, rfl, h9⟩, b9⟩
      exact HK.out _ _ (out_rdFV h9 hS.size) b9
    refine OwesAll.cons (k := 11) ?_ ?_
    · intro o ho a wx hS hold hdep K hK
      simp only [List.getElem?_toArray, List.getElem?_cons_succ, List.getElem?_cons_zero, Option.some.injEq] at ho
      subst ho
      have HK := Lib.hid hK
      clear hK
      have d2 : a.tmps.getD 2 undef = .pointer (some ⟨w.heap.size, 0, none⟩) := hold 2 (unset_of (by kernel_rfl))
      clear hold hdep
      rw [Array.getD_eq_getD_getElem?] at d2
      rw [if_pos (by rfl)]
      go_simp
      exact HK.out _ _ rfl (Below.refl _ _)
    refine OwesAll.cons (k := 12) ?_ ?_
    · intro o ho a wx hS hold hdep K hK
      simp only [List.getElem?_toArray, List.getElem?_cons_succ, List.getElem?_cons_zero, Option.some.injEq] at ho
      subst ho
      have HK := Lib.hid hK
      clear hK
      have d36 : a.tmps.getD 36 undef = .pointer (some ⟨w.heap.size, 2, none⟩) := dep_at hdep 11 rfl rfl (by kernel_rfl)
      clear hold hdep
      rw [Array.getD_eq_getD_getElem?] at d36
      rw [if_pos (by rfl)]
      have c0 : wx.cell? ⟨w.heap.size, 2, none⟩ = some (.slice av lk cv) := (hS.cell (p := ⟨w.heap.size, 2, none⟩) lt0).trans c2
      go_simp
      exact HK.out _ _ rfl (Below.refl _ _)
    refine OwesAll.cons (k := 13) ?_ ?_
    · intro o ho a wx hS hold hdep K hK
      simp only [List.getElem?_toArray, List.getElem?_cons_succ, List.getElem?_cons_zero, Option.some.injEq] at ho
      subst ho
      have HK := Lib.hid hK
      clear hK
      have d1 : a.tmps.getD 1 undef = .int .i64 (p : Int) := hold 1 (unset_of (by kernel_rfl))
      clear hold hdep
      rw [Array.getD_eq_getD_getElem?] at d1
      rw [if_pos (by rfl)]
      go_simp
      exact HK.out _ _ rfl (Below.refl _ _)
    refine OwesAll.cons (k := 14) ?_ ?_
    · intro o ho a wx hS hold hdep K hK
      simp only [List.getElem?_toArray, List.getElem?_cons_succ, List.getElem?_cons_zero, Option.some.injEq] at ho
      subst ho
      have HK := Lib.hid hK
      clear hK
      have d37 : a.tmps.getD 37 undef = .slice av lk cv := dep_at hdep 12 rfl rfl (by kernel_rfl)
      have d38 : a.tmps.getD 38 undef = .int .i64 (p : Int) := dep_at hdep 13 rfl rfl (by kernel_rfl)
      clear hold hdep
      rw [Array.getD_eq_getD_getElem?] at d37
      rw [Array.getD_eq_getD_getElem?] at d38
      rw [if_pos (by rfl)]
      go_simp
      refine HK.out _ _ ?_ (Below.refl _ _)
      show _ = _
      rw [← S3.out]
      simp [sliced, add0, Addr.add]
    refine OwesAll.cons (k := 15) ?_ ?_
    · intro o ho a wx hS hold hdep K hK
      simp only [List.getElem?_toArray, List.getElem?_cons_succ, List.getElem?_cons_zero, Option.some.injEq] at ho
      subst ho
      have HK := Lib.hid hK
      clear hK
      have d2 : a.tmps.getD 2 undef = .pointer (some ⟨w.heap.size, 0, none⟩) := hold 2 (unset_of (by kernel_rfl))
      clear hold hdep
      rw [Array.getD_eq_getD_getElem?] at d2
      rw [if_pos (by rfl)]
      go_simp
      exact HK.out _ _ rfl (Below.refl _ _)
    refine OwesAll.cons (k := 16) ?_ ?_
    · intro o ho a wx hS hold hdep K hK
      simp only [List.getElem?_toArray, List.getElem?_cons_succ, List.getElem?_cons_zero, Option.some.injEq] at ho
      subst ho
      have HK := Lib.hid hK
      clear hK
      have d40 : a.tmps.getD 40 undef = .pointer (some ⟨w.heap.size, 2, none⟩) := dep_at hdep 15 rfl rfl (by kernel_rfl)
      clear hold hdep
      rw [Array.getD_eq_getD_getElem?] at d40
      rw [if_pos (by rfl)]
      have c0 : wx.cell? ⟨w.heap.size, 2, none⟩ = some (.slice av lk cv) := (hS.cell (p := ⟨w.heap.size, 2, none⟩) lt0).trans c2
      go_simp
      exact HK.out _ _ rfl (Below.refl _ _)
    refine OwesAll.cons (k := 17) ?_ ?_
    · intro o ho a wx hS hold hdep K hK
      simp only [List.getElem?_toArray, List.getElem?_cons_succ, List.getElem?_cons_zero, Option.some.injEq] at ho
      subst ho
      have HK := Lib.hid hK
      clear hK
      have d1 : a.tmps.getD 1 undef = .int .i64 (p : Int) := hold 1 (unset_of (by kernel_rfl))
      clear hold hdep
      rw [Array.getD_eq_getD_getElem?] at d1
      rw [if_pos (by rfl)]
      go_simp
      exact HK.out _ _ rfl (Below.refl _ _)
    refine OwesAll.cons (k := 18) ?_ ?_
    · intro o ho a wx hS hold hdep K hK
      simp only [List.getElem?_toArray, List.getElem?_cons_succ, List.getElem?_cons_zero, Option.some.injEq] at ho
      subst ho
      have HK := Lib.hid hK
      clear hK
      have d42 : a.tmps.getD 42 undef = .int .i64 (p : Int) := dep_at hdep 17 rfl rfl (by kernel_rfl)
      clear hold hdep
      rw [Array.getD_eq_getD_getElem?] at d42
      rw [if_pos (by rfl)]
      go_simp
      refine HK.out _ _ ?_ (Below.refl _ _)
      show _ = _
      first | rfl | rw [hw1.out]
    refine OwesAll.cons (k := 19) ?_ ?_
    · intro o ho a wx hS hold hdep K hK
      simp only [List.getElem?_toArray, List.getElem?_cons_succ, List.getElem?_cons_zero, Option.some.injEq] at ho
      subst ho
      have HK := Lib.hid hK
      clear hK
      have d41 : a.tmps.getD 41 undef = .slice av lk cv := dep_at hdep 16 rfl rfl (by kernel_rfl)
      have d43 : a.tmps.getD 43 undef = .int .i64 ((p : Int) + 1) := dep_at hdep 18 rfl rfl (by kernel_rfl)
      clear hold hdep
      rw [Array.getD_eq_getD_getElem?] at d41
      rw [Array.getD_eq_getD_getElem?] at d43
      rw [if_pos (by rfl)]
      go_simp
      refine HK.out _ _ ?_ (Below.refl _ _)
      show _ = _
      rw [← S4.out]
      simp [sliced, add0, Addr.add]
    refine OwesAll.cons (k := 20) ?_ ?_
    · intro o ho a wx hS hold hdep K hK
      simp only [List.getElem?_toArray, List.getElem?_cons_succ, List.getElem?_cons_zero, Option.some.injEq] at ho
      subst ho
      have HK := Lib.hid hK
      clear hK
      have d39 : a.tmps.getD 39 undef = .slice a3 p cv := dep_at hdep 14 rfl rfl (by kernel_rfl)
      have d44 : a.tmps.getD 44 undef = .slice a4 (lk - (p + 1)) (cv - (p + 1)) := dep_at hdep 19 rfl rfl (by kernel_rfl)
      clear hold hdep
      rw [Array.getD_eq_getD_getElem?] at d39
      rw [Array.getD_eq_getD_getElem?] at d44
      rw [if_pos (by rfl)]
      go_simp
      exact HK.out _ _ ⟨_, rfl, Rd.made _ _ _⟩ (below_made _ _)
    refine OwesAll.cons (k := 21) ?_ ?_
    · intro o ho a wx hS hold hdep K hK
      simp only [List.getElem?_toArray, List.getElem?_cons_succ, List.getElem?_cons_zero, Option.some.injEq] at ho
      subst ho
      have HK := Lib.hid hK
      clear hK
      obtain ⟨a45, d45, r45⟩ : ∃ a', a.tmps.getD 45 undef = .slice a' 2 2 ∧ Rd wx a' [.slice a3 p cv, .slice a4 (lk - (p + 1)) (cv - (p + 1))] := dep_at hdep 20 rfl rfl (by kernel_rfl)
      clear hold hdep
      rw [Array.getD_eq_getD_getElem?] at d45
      rw [if_pos (by rfl)]
      have CA := C2.out wx a45 (chain B2.out hS) r45
      clear r45
      go_simp
      go_wp2_with fail
      refine CA.mono ?_
      rintro e w9 ⟨⟨v9, rfl, h9⟩, b9⟩
      exact HK.out _ _ (out_rdFV h9 hS.size) b9
    refine OwesAll.cons (k := 22) ?_ ?_
    · intro o ho a wx hS hold hdep K hK
      simp only [List.getElem?_toArray, List.getElem?_cons_succ, List.getElem?_cons_zero, Option.some.injEq] at ho
      subst ho
      have HK := Lib.hid hK
      clear hK
      obtain ⟨a35, c35, d35, r35, l35, m35, n35⟩ : ∃ a' c', a.tmps.getD 35 undef = .slice a' X1.length c' ∧ Rd wx a' X1 ∧ X1.length ≤ c' ∧ c' ≤ maxLen ∧ ∀ x, a' = some x → w2.heap.size ≤ x.block := dep_at hdep 10 rfl rfl (by kernel_rfl)
      obtain ⟨a46, c46, d46, r46, l46, m46, n46⟩ : ∃ a' c', a.tmps.getD 46 undef = .slice a' X2.length c' ∧ Rd wx a' X2 ∧ X2.length ≤ c' ∧ c' ≤ maxLen ∧ ∀ x, a' = some x → w2.heap.size ≤ x.block := dep_at hdep 21 rfl rfl (by kernel_rfl)
      clear hold hdep
      rw [Array.getD_eq_getD_getElem?] at d35
      rw [Array.getD_eq_getD_getElem?] at d46
      rw [if_pos (by rfl)]
      go_simp
      exact HK.out _ _ ⟨_, _, _, _, rfl, r35, r46, l35, m35, l46, m46, n35, n46⟩ (Below.refl _ _)
    refine OwesAll.skip (f := 23) ?_
    exact OwesAll.nil
  case ends =>
    intro a wx hS hsz hdf hold hdone
    simp only [List.getElem?_toArray, List.getElem?_cons_succ, List.getElem?_cons_zero]
    intro K hK
    have HK := Lib.hid hK
    clear hK
    obtain ⟨xa, xb, xc, xd, dB, q1, q2, q3, q4, q5, q6, q7, q8⟩ : ∃ xa xb xc xd, a.tmps.getD 47 undef = .agg #[.bool true, .slice xa X1.length xc, .slice xb X2.length xd, .slice none 0 0] ∧ Rd wx xa X1 ∧ Rd wx xb X2 ∧ X1.length ≤ xc ∧ xc ≤ maxLen ∧ X2.length ≤ xd ∧ xd ≤ maxLen ∧ (∀ x, xa = some x → w2.heap.size ≤ x.block) ∧ ∀ x, xb = some x → w2.heap.size ≤ x.block := hdone 22 _ 47 rfl (by decide) rfl
    have dR : a.tmps.getD 4 undef = .pointer (some ⟨w.heap.size + 1, 0, none⟩) := hold 4 (unset_of (by kernel_rfl))
    have hdf' : a.defers = [] := hdf
    clear hold hdone hsz hdf
    rw [Array.getD_eq_getD_getElem?] at dB dR
    have XB := kept X.out hS
    have y0 : wx.cell? ⟨w.heap.size + 1, 0, none⟩ = some (.bool false) := by rw [Go.Joins.cell_of_block XB]; rfl
    have y1 : wx.cell? ⟨w.heap.size + 1, 1, none⟩ = some (.slice none 0 0) := by rw [Go.Joins.cell_of_block XB]; rfl
    have y2 : wx.cell? ⟨w.heap.size + 1, 2, none⟩ = some (.slice none 0 0) := by rw [Go.Joins.cell_of_block XB]; rfl
    have y3 : wx.cell? ⟨w.heap.size + 1, 3, none⟩ = some (.slice none 0 0) := by rw [Go.Joins.cell_of_block XB]; rfl
    have f0 := Go.Joins.unfrozen_of_block XB 0
    have f1 := Go.Joins.unfrozen_of_block XB 1
    have f2 := Go.Joins.unfrozen_of_block XB 2
    have f3 := Go.Joins.unfrozen_of_block XB 3
    rw [if_pos (by rfl)]
    go_simp
    refine HK.out _ _ ?_
    have B9 : Below w.heap.size w ((((wx.setCell ⟨w.heap.size + 1, 0, none⟩ (.bool true)).setCell ⟨w.heap.size + 1, 1, none⟩ (.slice xa X1.length xc)).setCell ⟨w.heap.size + 1, 2, none⟩ (.slice xb X2.length xd)).setCell ⟨w.heap.size + 1, 3, none⟩ (.slice none 0 0)) :=
      ((((chain B2.out hS).setCell (by simp) _).setCell (by simp) _).setCell (by simp) _).setCell (by simp) _
    clear y0 y1 y2 y3 f0 f1 f2 f3 HK K
    go_wp2_with fail
    have lt1 : w.heap.size + 1 < w2.heap.size := (Array.getElem?_eq_some_iff.1 X.out).1
    have FIN : Hid (NodOut w.heap.size X1 X2 (.returned (.agg #[.bool true, .slice xa X1.length xc, .slice xb X2.length xd, .slice none 0 0])) ((((wx.setCell ⟨w.heap.size + 1, 0, none⟩ (.bool true)).setCell ⟨w.heap.size + 1, 1, none⟩ (.slice xa X1.length xc)).setCell ⟨w.heap.size + 1, 2, none⟩ (.slice xb X2.length xd)).setCell ⟨w.heap.size + 1, 3, none⟩ (.slice none 0 0))) :=
      Lib.hid ⟨_, rfl, xa, xb, xc, xd, rfl, q1.set4 _ _ _ _ _ (fun x hx => Nat.lt_of_lt_of_le lt1 (q7 x hx)), q2.set4 _ _ _ _ _ (fun x hx => Nat.lt_of_lt_of_le lt1 (q8 x hx)), q3, q4, q5, q6, fun x hx => Nat.le_trans (Nat.le_of_lt lt0) (q7 x hx), fun x hx => Nat.le_trans (Nat.le_of_lt lt0) (q8 x hx)⟩
    have XR : ((((wx.setCell ⟨w.heap.size + 1, 0, none⟩ (.bool true)).setCell ⟨w.heap.size + 1, 1, none⟩ (.slice xa X1.length xc)).setCell ⟨w.heap.size + 1, 2, none⟩ (.slice xb X2.length xd)).setCell ⟨w.heap.size + 1, 3, none⟩ (.slice none 0 0)).heap[w.heap.size + 1]? = some (.cells #[.bool true, .slice xa X1.length xc, .slice xb X2.length xd, .slice none 0 0] 26) := by
      rw [heap_setCell_same _ _ 3 _ _ _ (heap_setCell_same _ _ 2 _ _ _ (heap_setCell_same _ _ 1 _ _ _ (heap_setCell_same _ _ 0 _ _ _ XB)))]
      rfl
    generalize ((((wx.setCell ⟨w.heap.size + 1, 0, none⟩ (.bool true)).setCell ⟨w.heap.size + 1, 1, none⟩ (.slice xa X1.length xc)).setCell ⟨w.heap.size + 1, 2, none⟩ (.slice xb X2.length xd)).setCell ⟨w.heap.size + 1, 3, none⟩ (.slice none 0 0)) = wz at *
    have z0 : wz.cell? ⟨w.heap.size + 1, 0, none⟩ = some (.bool true) := by rw [Go.Joins.cell_of_block XR]; rfl
    have z1 : wz.cell? ⟨w.heap.size + 1, 1, none⟩ = some (.slice xa X1.length xc) := by rw [Go.Joins.cell_of_block XR]; rfl
    have z2 : wz.cell? ⟨w.heap.size + 1, 2, none⟩ = some (.slice xb X2.length xd) := by rw [Go.Joins.cell_of_block XR]; rfl
    have z3 : wz.cell? ⟨w.heap.size + 1, 3, none⟩ = some (.slice none 0 0) := by rw [Go.Joins.cell_of_block XR]; rfl
    exact bodyPost_ret (v := .agg #[.bool true, .slice xa X1.length xc, .slice xb X2.length xd, .slice none 0 0]) (by simp [results, Try.results14, go_sem, dR, z0, z1, z2, z3]) hdf' ⟨FIN.out, B9⟩
set_option maxHeartbeats 3200000 in
set_option maxRecDepth 20000 in
theorem unhang_yes (ak av ac a1 a2 a3 a4 : Option Addr) (ck cv cc lk lv p : Nat) (X1 X2 : List Value) (w : World)
    (WH : Hid (∀ w, Calls Try.prog 34 #[.agg #[.bool false, .slice ak lk ck, .slice av lv cv, .slice ac (lk + 1) cc]] w fun e w' => e = .returned (.bool true) ∧ Below w.heap.size w w'))
    (S1 : Hid (sliced ak 0 p ck 1 = .slice a1 p ck))
    (S2 : Hid (sliced ak (p + 1) lk ck 1 = .slice a2 (lk - (p + 1)) (ck - (p + 1))))
    (S3 : Hid (sliced ac 0 (p + 1) cc 1 = .slice a3 (p + 1) cc))
    (S4 : Hid (sliced ac (p + 2) (lk + 1) cc 1 = .slice a4 (lk - (p + 1)) (cc - (p + 2))))
    (C1 : Hid (∀ wx a, Below w.heap.size w wx → Rd wx a [.slice a1 p ck, .slice a2 (lk - (p + 1)) (ck - (p + 1))] → Calls Try.prog 35 #[.slice a 2 2] wx fun e w' => RowOut wx.heap.size 27 X1 e w' ∧ Below wx.heap.size wx w'))
    (C2 : Hid (∀ wx a, Below w.heap.size w wx → Rd wx a [.slice a3 (p + 1) cc, .slice a4 (lk - (p + 1)) (cc - (p + 2))] → Calls Try.prog 37 #[.slice a 2 2] wx fun e w' => RowOut wx.heap.size 3 X2 e w' ∧ Below wx.heap.size wx w'))
    (h1 : p + 1 ≤ lk) (h4 : lk ≤ ck) (h5 : lk + 1 ≤ cc) (h6 : lk ≤ 1000) :
    Calls Try.prog 16 #[.agg #[.bool false, .slice ak lk ck, .slice av lv cv, .slice ac (lk + 1) cc], .int .i64 (p : Int)] w fun e w' => NodOuB w.heap.size X1 X2 e w' ∧ Below w.heap.size w w' := by
  have i0 : (0 : Int) ≤ (p : Int) := by omega
  have i1 : (p : Int) ≤ 1000 := by omega
  have i2 : (p : Int) ≤ (ck : Int) := by omega
  have i3 : (p : Int) ≤ (lk : Int) := by omega
  have hw1 : Hid (IntKind.i64.wrap ((p : Int) + 1) = (p : Int) + 1) := Lib.hid (IntWalk.i64_in _ (by omega))
  have hw2 : Hid (IntKind.i64.wrap ((p : Int) + 2) = (p : Int) + 2) := Lib.hid (IntWalk.i64_in _ (by omega))
  have i4 : (p : Int) + 1 ≤ (lk : Int) := by omega
  have i5 : (p : Int) < (lk : Int) := by omega
  have i6 : (p : Int) + 1 ≤ (cc : Int) := by omega
  have i7 : (p : Int) + 2 ≤ (lk : Int) + 1 := by omega
  go_enter Try.func16, Try.ntmps16
  go_wp2_with fail
  refine (WH.out _).mono ?_
  rintro e w2 ⟨rfl, b1⟩
  have X1' := kept (heap_alloc_new (w.alloc _) _) b1
  have Y1' := kept (show ((w.alloc (.cells #[.bool false, .slice ak lk ck, .slice av lv cv, .slice ac (lk + 1) cc] 26)).alloc (.cells #[.bool false, .slice none 0 0, .slice none 0 0, .slice none 0 0] 26)).heap[w.heap.size]? = some (.cells #[.bool false, .slice ak lk ck, .slice av lv cv, .slice ac (lk + 1) cc] 26) from (heap_alloc_old _ _ (by simp)).trans (heap_alloc_new w _)) b1
  have B1 : Below w.heap.size w w2 := (((Below.refl _ _).alloc (Nat.le_refl _) _).alloc (by simp) _).trans (b1.mono (by simp; omega))
  rw [show (w.alloc (.cells #[.bool false, .slice ak lk ck, .slice av lv cv, .slice ac (lk + 1) cc] 26)).heap.size = w.heap.size + 1 from by simp] at X1'
  have lt0 : w.heap.size < w2.heap.size := (Array.getElem?_eq_some_iff.1 Y1').1
  have c0' : w2.cell? ⟨w.heap.size, 0, none⟩ = some (.bool false) := by rw [Go.Joins.cell_of_block Y1']; rfl
  have c1 : w2.cell? ⟨w.heap.size, 1, none⟩ = some (.slice ak lk ck) := by rw [Go.Joins.cell_of_block Y1']; rfl
  have c2 : w2.cell? ⟨w.heap.size, 2, none⟩ = some (.slice av lv cv) := by rw [Go.Joins.cell_of_block Y1']; rfl
  have c3 : w2.cell? ⟨w.heap.size, 3, none⟩ = some (.slice ac (lk + 1) cc) := by rw [Go.Joins.cell_of_block Y1']; rfl
  have X := Lib.hid X1'
  have B2 := Lib.hid B1
  clear b1 X1' Y1' B1
  clear WH
  go_wp2_with fail
  refine region_kit 24 48 [eqV (.pointer (some ⟨w.heap.size, 1, none⟩)), eqV (.slice ak lk ck), eqV (.int .i64 (p : Int)), eqV (.slice a1 p ck), eqV (.pointer (some ⟨w.heap.size, 1, none⟩)), eqV (.slice ak lk ck), eqV (.int .i64 (p : Int)), eqV (.int .i64 ((p : Int) + 1)), eqV (.slice a2 (lk - (p + 1)) (ck - (p + 1))), lstV [.slice a1 p ck, .slice a2 (lk - (p + 1)) (ck - (p + 1))], rdFV w2.heap.size X1, eqV (.pointer (some ⟨w.heap.size, 3, none⟩)), eqV (.slice ac (lk + 1) cc), eqV (.int .i64 (p : Int)), eqV (.int .i64 ((p : Int) + 1)), eqV (.slice a3 (p + 1) cc), eqV (.pointer (some ⟨w.heap.size, 3, none⟩)), eqV (.slice ac (lk + 1) cc), eqV (.int .i64 (p : Int)), eqV (.int .i64 ((p : Int) + 2)), eqV (.slice a4 (lk - (p + 1)) (cc - (p + 2))), lstV [.slice a3 (p + 1) cc, .slice a4 (lk - (p + 1)) (cc - (p + 2))], rdFV w2.heap.size X2, nodSB w2.heap.size X1 X2, anyV] (by kernel_rfl) (by kernel_rfl) (by rfl) ?owes ?ends
  case owes =>
    refine OwesAll.cons (k := 0) ?_ ?_
    · intro o ho a wx hS hold hdep K hK
      simp only [List.getElem?_toArray, List.getElem?_cons_succ, List.getElem?_cons_zero, Option.some.injEq] at ho
      subst ho
      have HK := Lib.hid hK
      clear hK
      have d2 : a.tmps.getD 2 undef = .pointer (some ⟨w.heap.size, 0, none⟩) := hold 2 (unset_of (by kernel_rfl))
      clear hold hdep
      rw [Array.getD_eq_getD_getElem?] at d2
      rw [if_pos (by rfl)]
      go_simp
      exact HK.out _ _ rfl (Below.refl _ _)
    refine OwesAll.cons (k := 1) ?_ ?_
    · intro o ho a wx hS hold hdep K hK
      simp only [List.getElem?_toArray, List.getElem?_cons_succ, List.getElem?_cons_zero, Option.some.injEq] at ho
      subst ho
      have HK := Lib.hid hK
      clear hK
      have d24 : a.tmps.getD 24 undef = .pointer (some ⟨w.heap.size, 1, none⟩) := dep_at hdep 0 rfl rfl (by kernel_rfl)
      clear hold hdep
      rw [Array.getD_eq_getD_getElem?] at d24
      rw [if_pos (by rfl)]
      have c0 : wx.cell? ⟨w.heap.size, 1, none⟩ = some (.slice ak lk ck) := (hS.cell (p := ⟨w.heap.size, 1, none⟩) lt0).trans c1
      go_simp
      exact HK.out _ _ rfl (Below.refl _ _)
    refine OwesAll.cons (k := 2) ?_ ?_
    · intro o ho a wx hS hold hdep K hK
      simp only [List.getElem?_toArray, List.getElem?_cons_succ, List.getElem?_cons_zero, Option.some.injEq] at ho
      subst ho
      have HK := Lib.hid hK
      clear hK
      have d1 : a.tmps.getD 1 undef = .int .i64 (p : Int) := hold 1 (unset_of (by kernel_rfl))
      clear hold hdep
      rw [Array.getD_eq_getD_getElem?] at d1
      rw [if_pos (by rfl)]
      go_simp
      exact HK.out _ _ rfl (Below.refl _ _)
    refine OwesAll.cons (k := 3) ?_ ?_
    · intro o ho a wx hS hold hdep K hK
      simp only [List.getElem?_toArray, List.getElem?_cons_succ, List.getElem?_cons_zero, Option.some.injEq] at ho
      subst ho
      have HK := Lib.hid hK
      clear hK
      have d25 : a.tmps.getD 25 undef = .slice ak lk ck := dep_at hdep 1 rfl rfl (by kernel_rfl)
      have d26 : a.tmps.getD 26 undef = .int .i64 (p : Int) := dep_at hdep 2 rfl rfl (by kernel_rfl)
      clear hold hdep
      rw [Array.getD_eq_getD_getElem?] at d25
      rw [Array.getD_eq_getD_getElem?] at d26
      rw [if_pos (by rfl)]
      go_simp
      refine HK.out _ _ ?_ (Below.refl _ _)
      show _ = _
      rw [← S1.out]
      simp [sliced, add0, Addr.add]
    refine OwesAll.cons (k := 4) ?_ ?_
    · intro o ho a wx hS hold hdep K hK
      simp only [List.getElem?_toArray, List.getElem?_cons_succ, List.getElem?_cons_zero, Option.some.injEq] at ho
      subst ho
      have HK := Lib.hid hK
      clear hK
      have d2 : a.tmps.getD 2 undef = .pointer (some ⟨w.heap.size, 0, none⟩) := hold 2 (unset_of (by kernel_rfl))
      clear hold hdep
      rw [Array.getD_eq_getD_getElem?] at d2
      rw [if_pos (by rfl)]
      go_simp
      exact HK.out _ _ rfl (Below.refl _ _)
    refine OwesAll.cons (k := 5) ?_ ?_
    · intro o ho a wx hS hold hdep K hK
      simp only [List.getElem?_toArray, List.getElem?_cons_succ, List.getElem?_cons_zero, Option.some.injEq] at ho
      subst ho
      have HK := Lib.hid hK
      clear hK
      have d28 : a.tmps.getD 28 undef = .pointer (some ⟨w.heap.size, 1, none⟩) := dep_at hdep 4 rfl rfl (by kernel_rfl)
      clear hold hdep
      rw [Array.getD_eq_getD_getElem?] at d28
      rw [if_pos (by rfl)]
      have c0 : wx.cell? ⟨w.heap.size, 1, none⟩ = some (.slice ak lk ck) := (hS.cell (p := ⟨w.heap.size, 1, none⟩) lt0).trans c1
      go_simp
      exact HK.out _ _ rfl (Below.refl _ _)
    refine OwesAll.cons (k := 6) ?_ ?_
    · intro o ho a wx hS hold hdep K hK
      simp only [List.getElem?_toArray, List.getElem?_cons_succ, List.getElem?_cons_zero, Option.some.injEq] at ho
      subst ho
      have HK := Lib.hid hK
      clear hK
      have d1 : a.tmps.getD 1 undef = .int .i64 (p : Int) := hold 1 (unset_of (by kernel_rfl))
      clear hold hdep
      rw [Array.getD_eq_getD_getElem?] at d1
      rw [if_pos (by rfl)]
      go_simp
      exact HK.out _ _ rfl (Below.refl _ _)
    refine OwesAll.cons (k := 7) ?_ ?_
    · intro o ho a wx hS hold hdep K hK
      simp only [List.getElem?_toArray, List.getElem?_cons_succ, List.getElem?_cons_zero, Option.some.injEq] at ho
      subst ho
      have HK := Lib.hid hK
      clear hK
      have d30 : a.tmps.getD 30 undef = .int .i64 (p : Int) := dep_at hdep 6 rfl rfl (by kernel_rfl)
      clear hold hdep
      rw [Array.getD_eq_getD_getElem?] at d30
      rw [if_pos (by rfl)]
      go_simp
      refine HK.out _ _ ?_ (Below.refl _ _)
      show _ = _
      first | rfl | rw [hw1.out]
    refine OwesAll.cons (k := 8) ?_ ?_
    · intro o ho a wx hS hold hdep K hK
      simp only [List.getElem?_toArray, List.getElem?_cons_succ, List.getElem?_cons_zero, Option.some.injEq] at ho
      subst ho
      have HK := Lib.hid hK
      clear hK
      have d29 : a.tmps.getD 29 undef = .slice ak lk ck := dep_at hdep 5 rfl rfl (by kernel_rfl)
      have d31 : a.tmps.getD 31 undef = .int .i64 ((p : Int) + 1) := dep_at hdep 7 rfl rfl (by kernel_rfl)
      clear hold hdep
      rw [Array.getD_eq_getD_getElem?] at d29
      rw [Array.getD_eq_getD_getElem?] at d31
      rw [if_pos (by rfl)]
      go_simp
      refine HK.out _ _ ?_ (Below.refl _ _)
      show _ = _
      rw [← S2.out]
      simp [sliced, add0, Addr.add]
    refine OwesAll.cons (k := 9) ?_ ?_
    · intro o ho a wx hS hold hdep K hK
      simp only [List.getElem?_toArray, List.getElem?_cons_succ, List.getElem?_cons_zero, Option.some.injEq] at ho
      subst ho
      have HK := Lib.hid hK
      clear hK
      have d27 : a.tmps.getD 27 undef = .slice a1 p ck := dep_at hdep 3 rfl rfl (by kernel_rfl)
      have d32 : a.tmps.getD 32 undef = .slice a2 (lk - (p + 1)) (ck - (p + 1)) := dep_at hdep 8 rfl rfl (by kernel_rfl)
      clear hold hdep
      rw [Array.getD_eq_getD_getElem?] at d27
      rw [Array.getD_eq_getD_getElem?] at d32
      rw [if_pos (by rfl)]
      go_simp
      exact HK.out _ _ ⟨_, rfl, Rd.made _ _ _⟩ (below_made _ _)
    refine OwesAll.cons (k := 10) ?_ ?_
    · intro o ho a wx hS hold hdep K hK
      simp only [List.getElem?_toArray, List.getElem?_cons_succ, List.getElem?_cons_zero, Option.some.injEq] at ho
      subst ho
      have HK := Lib.hid hK
      clear hK
      obtain ⟨a33, d33, r33⟩ : ∃ a', a.tmps.getD 33 undef = .slice a' 2 2 ∧ Rd wx a' [.slice a1 p ck, .slice a2 (lk - (p + 1)) (ck - (p + 1))] := dep_at hdep 9 rfl rfl (by kernel_rfl)
      clear hold hdep
      rw [Array.getD_eq_getD_getElem?] at d33
      rw [if_pos (by rfl)]
      have CA := C1.out wx a33 (chain B2.out hS) r33
      clear r33
      go_simp
      go_wp2_with fail
      refine CA.mono ?_
      rintro e w9 ⟨⟨v9, rfl, h9⟩, b9⟩
      exact HK.out _ _ (out_rdFV h9 hS.size) b9
    refine OwesAll.cons (k := 11) ?_ ?_
    · intro o ho a wx hS hold hdep K hK
      simp only [List.getElem?_toArray, List.getElem?_cons_succ, List.getElem?_cons_zero, Option.some.injEq] at ho
      subst ho
      have HK := Lib.hid hK
      clear hK
      have d2 : a.tmps.getD 2 undef = .pointer (some ⟨w.heap.size, 0, none⟩) := hold 2 (unset_of (by kernel_rfl))
      clear hold hdep
      rw [Array.getD_eq_getD_getElem?] at d2
      rw [if_pos (by rfl)]
      go_simp
      exact HK.out _ _ rfl (Below.refl _ _)
    refine OwesAll.cons (k := 12) ?_ ?_
    · intro o ho a wx hS hold hdep K hK
      simp only [List.getElem?_toArray, List.getElem?_cons_succ, List.getElem?_cons_zero, Option.some.injEq] at ho
      subst ho
      have HK := Lib.hid hK
      clear hK
      have d35 : a.tmps.getD 35 undef = .pointer (some ⟨w.heap.size, 3, none⟩) := dep_at hdep 11 rfl rfl (by kernel_rfl)
      clear hold hdep
      rw [Array.getD_eq_getD_getElem?] at d35
      rw [if_pos (by rfl)]
      have c0 : wx.cell? ⟨w.heap.size, 3, none⟩ = some (.slice ac (lk + 1) cc) := (hS.cell (p := ⟨w.heap.size, 3, none⟩) lt0).trans c3
      go_simp
      exact HK.out _ _ rfl (Below.refl _ _)
    refine OwesAll.cons (k := 13) ?_ ?_
    · intro o ho a wx hS hold hdep K hK
      simp only [List.getElem?_toArray, List.getElem?_cons_succ, List.getElem?_cons_zero, Option.some.injEq] at ho
      subst ho
      have HK := Lib.hid hK
      clear hK
      have d1 : a.tmps.getD 1 undef = .int .i64 (p : Int) := hold 1 (unset_of (by kernel_rfl))
      clear hold hdep
      rw [Array.getD_eq_getD_getElem?] at d1
      rw [if_pos (by rfl)]
      go_simp
      exact HK.out _ _ rfl (Below.refl _ _)
    refine OwesAll.cons (k := 14) ?_ ?_
    · intro o ho a wx hS hold hdep K hK
      simp only [List.getElem?_toArray, List.getElem?_cons_succ, List.getElem?_cons_zero, Option.some.injEq] at ho
      subst ho
      have HK := Lib.hid hK
      clear hK
      have d37 : a.tmps.getD 37 undef = .int .i64 (p : Int) := dep_at hdep 13 rfl rfl (by kernel_rfl)
      clear hold hdep
      rw [Array.getD_eq_getD_getElem?] at d37
      rw [if_pos (by rfl)]
      go_simp
      refine HK.out _ _ ?_ (Below.refl _ _)
      show _ = _
      first | rfl | rw [hw1.out]
    refine OwesAll.cons (k := 15) ?_ ?_
    · intro o ho a wx hS hold hdep K hK
      simp only [List.getElem?_toArray, List.getElem?_cons_succ, List.getElem?_cons_zero, Option.some.injEq] at ho
      subst ho
      have HK := Lib.hid hK
      clear hK
      have d36 : a.tmps.getD 36 undef = .slice ac (lk + 1) cc := dep_at hdep 12 rfl rfl (by kernel_rfl)
      have d38 : a.tmps.getD 38 undef = .int .i64 ((p : Int) + 1) := dep_at hdep 14 rfl rfl (by kernel_rfl)
      clear hold hdep
      rw [Array.getD_eq_getD_getElem?] at d36
      rw [Array.getD_eq_getD_getElem?] at d38
      rw [if_pos (by rfl)]
      go_simp
      refine HK.out _ _ ?_ (Below.refl _ _)
      show _ = _
      rw [← S3.out]
      simp [sliced, add0, Addr.add]
    refine OwesAll.cons (k := 16) ?_ ?_
    · intro o ho a wx hS hold hdep K hK
      simp only [List.getElem?_toArray, List.getElem?_cons_succ, List.getElem?_cons_zero, Option.some.injEq] at ho
      subst ho
      have HK := Lib.hid hK
      clear hK
      have d2 : a.tmps.getD 2 undef = .pointer (some ⟨w.heap.size, 0, none⟩) := hold 2 (unset_of (by kernel_rfl))
      clear hold hdep
      rw [Array.getD_eq_getD_getElem?] at d2
      rw [if_pos (by rfl)]
      go_simp
      exact HK.out _ _ rfl (Below.refl _ _)
    refine OwesAll.cons (k := 17) ?_ ?_
    · intro o ho a wx hS hold hdep K hK
      simp only [List.getElem?_toArray, List.getElem?_cons_succ, List.getElem?_cons_zero, Option.some.injEq] at ho
      subst ho
      have HK := Lib.hid hK
      clear hK
      have d40 : a.tmps.getD 40 undef = .pointer (some ⟨w.heap.size, 3, none⟩) := dep_at hdep 16 rfl rfl (by kernel_rfl)
      clear hold hdep
      rw [Array.getD_eq_getD_getElem?] at d40
      rw [if_pos (by rfl)]
      have c0 : wx.cell? ⟨w.heap.size, 3, none⟩ = some (.slice ac (lk + 1) cc) := (hS.cell (p := ⟨w.heap.size, 3, none⟩) lt0).trans c3
      go_simp
      exact HK.out _ _ rfl (Below.refl _ _)
    refine OwesAll.cons (k := 18) ?_ ?_
    · intro o ho a wx hS hold hdep K hK
      simp only [List.getElem?_toArray, List.getElem?_cons_succ, List.getElem?_cons_zero, Option.some.injEq] at ho
      subst ho
      have HK := Lib.hid hK
      clear hK
      have d1 : a.tmps.getD 1 undef = .int .i64 (p : Int) := hold 1 (unset_of (by kernel_rfl))
      clear hold hdep
      rw [Array.getD_eq_getD_getElem?] at d1
      rw [if_pos (by rfl)]
      go_simp
      exact HK.out _ _ rfl (Below.refl _ _)
    refine OwesAll.cons (k := 19) ?_ ?_
    · intro o ho a wx hS hold hdep K hK
      simp only [List.getElem?_toArray, List.getElem?_cons_succ, List.getElem?_cons_zero, Option.some.injEq] at ho
      subst ho
      have HK := Lib.hid hK
      clear hK
      have d42 : a.tmps.getD 42 undef = .int .i64 (p : Int) := dep_at hdep 18 rfl rfl (by kernel_rfl)
      clear hold hdep
      rw [Array.getD_eq_getD_getElem?] at d42
      rw [if_pos (by rfl)]
      go_simp
      refine HK.out _ _ ?_ (Below.refl _ _)
      show _ = _
      first | rfl | rw [hw2.out]
    refine OwesAll.cons (k := 20) ?_ ?_
    · intro o ho a wx hS hold hdep K hK
      simp only [List.getElem?_toArray, List.getElem?_cons_succ, List.getElem?_cons_zero, Option.some.injEq] at ho
      subst ho
      have HK := Lib.hid hK
      clear hK
      have d41 : a.tmps.getD 41 undef = .slice ac (lk + 1) cc := dep_at hdep 17 rfl rfl (by kernel_rfl)
      have d43 : a.tmps.getD 43 undef = .int .i64 ((p : Int) + 2) := dep_at hdep 19 rfl rfl (by kernel_rfl)
      clear hold hdep
      rw [Array.getD_eq_getD_getElem?] at d41
      rw [Array.getD_eq_getD_getElem?] at d43
      rw [if_pos (by rfl)]
      go_simp
      refine HK.out _ _ ?_ (Below.refl _ _)
      show _ = _
      rw [← S4.out]
      simp [sliced, add0, Addr.add, show ((p : Int) + 2).toNat = p + 2 from by omega, show ¬ ((p : Int) + 2 ≤ 0) from by omega]
    refine OwesAll.cons (k := 21) ?_ ?_
    · intro o ho a wx hS hold hdep K hK
      simp only [List.getElem?_toArray, List.getElem?_cons_succ, List.getElem?_cons_zero, Option.some.injEq] at ho
      subst ho
      have HK := Lib.hid hK
      clear hK
      have d39 : a.tmps.getD 39 undef = .slice a3 (p + 1) cc := dep_at hdep 15 rfl rfl (by kernel_rfl)
      have d44 : a.tmps.getD 44 undef = .slice a4 (lk - (p + 1)) (cc - (p + 2)) := dep_at hdep 20 rfl rfl (by kernel_rfl)
      clear hold hdep
      rw [Array.getD_eq_getD_getElem?] at d39
      rw [Array.getD_eq_getD_getElem?] at d44
      rw [if_pos (by rfl)]
      go_simp
      exact HK.out _ _ ⟨_, rfl, Rd.made _ _ _⟩ (below_made _ _)
    refine OwesAll.cons (k := 22) ?_ ?_
    · intro o ho a wx hS hold hdep K hK
      simp only [List.getElem?_toArray, List.getElem?_cons_succ, List.getElem?_cons_zero, Option.some.injEq] at ho
      subst ho
      have HK := Lib.hid hK
      clear hK
      obtain ⟨a45, d45, r45⟩ : ∃ a', a.tmps.getD 45 undef = .slice a' 2 2 ∧ Rd wx a' [.slice a3 (p + 1) cc, .slice a4 (lk - (p + 1)) (cc - (p + 2))] := dep_at hdep 21 rfl rfl (by kernel_rfl)
      clear hold hdep
      rw [Array.getD_eq_getD_getElem?] at d45
      rw [if_pos (by rfl)]
      have CA := C2.out wx a45 (chain B2.out hS) r45
      clear r45
      go_simp
      go_wp2_with fail
      refine CA.mono ?_
      rintro e w9 ⟨⟨v9, rfl, h9⟩, b9⟩
      exact HK.out _ _ (out_rdFV h9 hS.size) b9
    refine OwesAll.cons (k := 23) ?_ ?_
    · intro o ho a wx hS hold hdep K hK
      simp only [List.getElem?_toArray, List.getElem?_cons_succ, List.getElem?_cons_zero, Option.some.injEq] at ho
      subst ho
      have HK := Lib.hid hK
      clear hK
      obtain ⟨a34, c34, d34, r34, l34, m34, n34⟩ : ∃ a' c', a.tmps.getD 34 undef = .slice a' X1.length c' ∧ Rd wx a' X1 ∧ X1.length ≤ c' ∧ c' ≤ maxLen ∧ ∀ x, a' = some x → w2.heap.size ≤ x.block := dep_at hdep 10 rfl rfl (by kernel_rfl)
      obtain ⟨a46, c46, d46, r46, l46, m46, n46⟩ : ∃ a' c', a.tmps.getD 46 undef = .slice a' X2.length c' ∧ Rd wx a' X2 ∧ X2.length ≤ c' ∧ c' ≤ maxLen ∧ ∀ x, a' = some x → w2.heap.size ≤ x.block := dep_at hdep 22 rfl rfl (by kernel_rfl)
      clear hold hdep
      rw [Array.getD_eq_getD_getElem?] at d34
      rw [Array.getD_eq_getD_getElem?] at d46
      rw [if_pos (by rfl)]
      go_simp
      exact HK.out _ _ ⟨_, _, _, _, rfl, r34, r46, l34, m34, l46, m46, n34, n46⟩ (Below.refl _ _)
    refine OwesAll.skip (f := 24) ?_
    exact OwesAll.nil
  case ends =>
    intro a wx hS hsz hdf hold hdone
    simp only [List.getElem?_toArray, List.getElem?_cons_succ, List.getElem?_cons_zero]
    intro K hK
    have HK := Lib.hid hK
    clear hK
    obtain ⟨xa, xb, xc, xd, dB, q1, q2, q3, q4, q5, q6, q7, q8⟩ : ∃ xa xb xc xd, a.tmps.getD 47 undef = .agg #[.bool false, .slice xa X1.length xc, .slice none 0 0, .slice xb X2.length xd] ∧ Rd wx xa X1 ∧ Rd wx xb X2 ∧ X1.length ≤ xc ∧ xc ≤ maxLen ∧ X2.length ≤ xd ∧ xd ≤ maxLen ∧ (∀ x, xa = some x → w2.heap.size ≤ x.block) ∧ ∀ x, xb = some x → w2.heap.size ≤ x.block := hdone 23 _ 47 rfl (by decide) rfl
    have dR : a.tmps.getD 4 undef = .pointer (some ⟨w.heap.size + 1, 0, none⟩) := hold 4 (unset_of (by kernel_rfl))
    have hdf' : a.defers = [] := hdf
    clear hold hdone hsz hdf
    rw [Array.getD_eq_getD_getElem?] at dB dR
    have XB := kept X.out hS
    have y0 : wx.cell? ⟨w.heap.size + 1, 0, none⟩ = some (.bool false) := by rw [Go.Joins.cell_of_block XB]; rfl
    have y1 : wx.cell? ⟨w.heap.size + 1, 1, none⟩ = some (.slice none 0 0) := by rw [Go.Joins.cell_of_block XB]; rfl
    have y2 : wx.cell? ⟨w.heap.size + 1, 2, none⟩ = some (.slice none 0 0) := by rw [Go.Joins.cell_of_block XB]; rfl
    have y3 : wx.cell? ⟨w.heap.size + 1, 3, none⟩ = some (.slice none 0 0) := by rw [Go.Joins.cell_of_block XB]; rfl
    have f0 := Go.Joins.unfrozen_of_block XB 0
    have f1 := Go.Joins.unfrozen_of_block XB 1
    have f2 := Go.Joins.unfrozen_of_block XB 2
    have f3 := Go.Joins.unfrozen_of_block XB 3
    rw [if_pos (by rfl)]
    go_simp
    refine HK.out _ _ ?_
    have B9 : Below w.heap.size w ((((wx.setCell ⟨w.heap.size + 1, 0, none⟩ (.bool false)).setCell ⟨w.heap.size + 1, 1, none⟩ (.slice xa X1.length xc)).setCell ⟨w.heap.size + 1, 2, none⟩ (.slice none 0 0)).setCell ⟨w.heap.size + 1, 3, none⟩ (.slice xb X2.length xd)) :=
      ((((chain B2.out hS).setCell (by simp) _).setCell (by simp) _).setCell (by simp) _).setCell (by simp) _
    clear y0 y1 y2 y3 f0 f1 f2 f3 HK K
    go_wp2_with fail
    have lt1 : w.heap.size + 1 < w2.heap.size := (Array.getElem?_eq_some_iff.1 X.out).1
    have FIN : Hid (NodOuB w.heap.size X1 X2 (.returned (.agg #[.bool false, .slice xa X1.length xc, .slice none 0 0, .slice xb X2.length xd])) ((((wx.setCell ⟨w.heap.size + 1, 0, none⟩ (.bool false)).setCell ⟨w.heap.size + 1, 1, none⟩ (.slice xa X1.length xc)).setCell ⟨w.heap.size + 1, 2, none⟩ (.slice none 0 0)).setCell ⟨w.heap.size + 1, 3, none⟩ (.slice xb X2.length xd))) :=
      Lib.hid ⟨_, rfl, xa, xb, xc, xd, rfl, q1.set4 _ _ _ _ _ (fun x hx => Nat.lt_of_lt_of_le lt1 (q7 x hx)), q2.set4 _ _ _ _ _ (fun x hx => Nat.lt_of_lt_of_le lt1 (q8 x hx)), q3, q4, q5, q6, fun x hx => Nat.le_trans (Nat.le_of_lt lt0) (q7 x hx), fun x hx => Nat.le_trans (Nat.le_of_lt lt0) (q8 x hx)⟩
    have XR : ((((wx.setCell ⟨w.heap.size + 1, 0, none⟩ (.bool false)).setCell ⟨w.heap.size + 1, 1, none⟩ (.slice xa X1.length xc)).setCell ⟨w.heap.size + 1, 2, none⟩ (.slice none 0 0)).setCell ⟨w.heap.size + 1, 3, none⟩ (.slice xb X2.length xd)).heap[w.heap.size + 1]? = some (.cells #[.bool false, .slice xa X1.length xc, .slice none 0 0, .slice xb X2.length xd] 26) := by
      rw [heap_setCell_same _ _ 3 _ _ _ (heap_setCell_same _ _ 2 _ _ _ (heap_setCell_same _ _ 1 _ _ _ (heap_setCell_same _ _ 0 _ _ _ XB)))]
      rfl
    generalize ((((wx.setCell ⟨w.heap.size + 1, 0, none⟩ (.bool false)).setCell ⟨w.heap.size + 1, 1, none⟩ (.slice xa X1.length xc)).setCell ⟨w.heap.size + 1, 2, none⟩ (.slice none 0 0)).setCell ⟨w.heap.size + 1, 3, none⟩ (.slice xb X2.length xd)) = wz at *
    have z0 : wz.cell? ⟨w.heap.size + 1, 0, none⟩ = some (.bool false) := by rw [Go.Joins.cell_of_block XR]; rfl
    have z1 : wz.cell? ⟨w.heap.size + 1, 1, none⟩ = some (.slice xa X1.length xc) := by rw [Go.Joins.cell_of_block XR]; rfl
    have z2 : wz.cell? ⟨w.heap.size + 1, 2, none⟩ = some (.slice none 0 0) := by rw [Go.Joins.cell_of_block XR]; rfl
    have z3 : wz.cell? ⟨w.heap.size + 1, 3, none⟩ = some (.slice xb X2.length xd) := by rw [Go.Joins.cell_of_block XR]; rfl
    exact bodyPost_ret (v := .agg #[.bool false, .slice xa X1.length xc, .slice none 0 0, .slice xb X2.length xd]) (by simp [results, Try.results16, go_sem, dR, z0, z1, z2, z3]) hdf' ⟨FIN.out, B9⟩
end Go.Proofs.Ytkdcoipbdkmieaa
