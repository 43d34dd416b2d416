/-
  Package node: Put.
-/
import Derived.Test.YtkdcoipbdkmieaaConcat
import Derived.Test.YtkdcoipbdkmieaaFlowKit
namespace Go.Proofs.Ytkdcoipbdkmieaa
open Go.RowKit
set_option linter.unusedVariables false
set_option linter.unusedSimpArgs false
theorem kept {w w' : World} {g : Nat} {o : Obj} (h : w.heap[g]? = some o) (b : Below w.heap.size w w') : w'.heap[g]? = some o := by
  rw [b.block g (Array.getElem?_eq_some_iff.1 h).1]; exact h
def nodSP (lo : Nat) (LK LV : List Value) : SP := ⟨fun v w => ∃ xa xb xc xd, v = .agg #[.bool true, .slice xa LK.length xc, .slice xb LV.length xd, .slice none 0 0] ∧ Rd w xa LK ∧ Rd w xb LV ∧ LK.length ≤ xc ∧ xc ≤ maxLen ∧ LV.length ≤ xd ∧ xd ≤ maxLen ∧ (∀ x, xa = some x → lo ≤ x.block) ∧ ∀ x, xb = some x → lo ≤ x.block,
  fun _ _ _ ⟨xa, xb, xc, xd, h, q1, q2, q⟩ hb => ⟨xa, xb, xc, xd, h, q1.below hb, q2.below hb, q⟩⟩
theorem sliced_zero (a : Option Addr) (p c : Nat) : ∃ a', sliced a 0 p c 1 = .slice a' p c := ⟨_, by unfold sliced; rfl⟩
def NodOut (lo : Nat) (LK LV : List Value) (e : Ending) (w' : World) : Prop := ∃ v, e = .returned v ∧ (nodSP lo LK LV).p v w'
set_option maxHeartbeats 3200000 in
set_option maxRecDepth 20000 in
theorem nput_no (ak av ac a1 a2 a3 a4 : Option Addr) (ck cv cc lk lc p : Nat) (key : Int) (v : ByteArray) (LK LV : List Value) (w : World)
    (WH : Hid (∀ w, Calls Try.prog 34 #[.agg #[.bool true, .slice ak lk ck, .slice av lk cv, .slice ac lc cc]] w fun e w' => e = .returned (.bool true) ∧ Below w.heap.size w w'))
    (FI : Hid (∀ w1, Below w.heap.size w w1 → Calls Try.prog 12 #[.agg #[.bool true, .slice ak lk ck, .slice av lk cv, .slice ac lc cc], .int .u64 key] w1 fun e w' => e = .returned (.tuple #[.int .i64 (p : Int), .bool false]) ∧ Below w1.heap.size w1 w'))
    (S1 : Hid (sliced ak 0 p ck 1 = .slice a1 p ck)) (S2 : Hid (sliced ak p lk ck 1 = .slice a2 (lk - p) (ck - p))) (S3 : Hid (sliced av 0 p cv 1 = .slice a3 p cv)) (S4 : Hid (sliced av p lk cv 1 = .slice a4 (lk - p) (cv - p)))
    (CK : Hid (∀ wx a m, Below w.heap.size w wx → Rd wx a [.slice a1 p ck, .slice m 1 1, .slice a2 (lk - p) (ck - p)] → Rd wx m [ukey key] → Calls Try.prog 35 #[.slice a 3 3] wx fun e w' => RowOut wx.heap.size 27 LK e w' ∧ Below wx.heap.size wx w'))
    (CV : Hid (∀ wx a m, Below w.heap.size w wx → Rd wx a [.slice a3 p cv, .slice m 1 1, .slice a4 (lk - p) (cv - p)] → Rd wx m [.string v] → Calls Try.prog 36 #[.slice a 3 3] wx fun e w' => RowOut wx.heap.size 9 LV e w' ∧ Below wx.heap.size wx w'))
    (h1 : p ≤ lk) (h2 : p ≤ lk) (h4 : lk ≤ ck) (h5 : lk ≤ cv) (h6 : lk ≤ 1000) :
    Calls Try.prog 13 #[.agg #[.bool true, .slice ak lk ck, .slice av lk cv, .slice ac lc cc], .int .u64 key, .string v] w fun e w' => NodOut w.heap.size LK LV e w' ∧ Below w.heap.size w w' := by
  have i1 : (p : Int) ≤ (ck : Int) := by omega
  have i2 : (p : Int) ≤ (lk : Int) := by omega
  have i3 : (p : Int) ≤ (cv : Int) := by omega
  have i4 : (p : Int) ≤ (lk : Int) := by omega
  have i5 : (p : Int) ≤ 1000 := by omega
  go_enter Try.func13, Try.ntmps13
  go_wp2_with fail
  refine (WH.out _).mono ?_
  rintro e w1 ⟨rfl, b1⟩
  have X1 := kept (heap_alloc_new (w.alloc _) _) b1
  have Y1 := kept (show ((w.alloc (.cells #[.bool true, .slice ak lk ck, .slice av lk cv, .slice ac lc cc] 26)).alloc (.cells #[.bool false, .slice none 0 0, .slice none 0 0, .slice none 0 0] 26)).heap[w.heap.size]? = some (.cells #[.bool true, .slice ak lk ck, .slice av lk cv, .slice ac lc cc] 26) from (heap_alloc_old _ _ (by simp)).trans (heap_alloc_new w _)) b1
  have B1 : Below w.heap.size w w1 := (((Below.refl _ _).alloc (Nat.le_refl _) _).alloc (by simp) _).trans (b1.mono (by simp; omega))
  have k0 : w1.cell? ⟨w.heap.size, 0, none⟩ = some (.bool true) := by rw [Go.Joins.cell_of_block Y1]; rfl
  have k1 : w1.cell? ⟨w.heap.size, 1, none⟩ = some (.slice ak lk ck) := by rw [Go.Joins.cell_of_block Y1]; rfl
  have k2 : w1.cell? ⟨w.heap.size, 2, none⟩ = some (.slice av lk cv) := by rw [Go.Joins.cell_of_block Y1]; rfl
  have k3 : w1.cell? ⟨w.heap.size, 3, none⟩ = some (.slice ac lc cc) := by rw [Go.Joins.cell_of_block Y1]; rfl
  have XH := Lib.hid X1
  have YH := Lib.hid Y1
  have BH := Lib.hid B1
  clear b1 X1 Y1 B1
  go_wp2_with fail
  refine (FI.out _ BH.out).mono ?_
  rintro e w2 ⟨rfl, b2⟩
  have X2 := kept XH.out b2
  have Y2 := kept YH.out b2
  have B2 := Lib.hid (chain BH.out b2)
  clear XH YH BH k0 k1 k2 k3 b2
  have lt0 : w.heap.size < w2.heap.size := (Array.getElem?_eq_some_iff.1 Y2).1
  have c1 : w2.cell? ⟨w.heap.size, 1, none⟩ = some (.slice ak lk ck) := by rw [Go.Joins.cell_of_block Y2]; rfl
  have c2 : w2.cell? ⟨w.heap.size, 2, none⟩ = some (.slice av lk cv) := by rw [Go.Joins.cell_of_block Y2]; rfl
  have X := Lib.hid X2
  have Y := Lib.hid Y2
  clear X2 Y2 FI WH
  go_wp2_with fail
  refine region_kit 25 54 [eqV (.pointer (some ⟨w.heap.size, 1, none⟩)), eqV (.slice ak lk ck), eqV (.int .i64 (p : Int)), eqV (.slice a1 p ck), eqV (.int .u64 key), lstV [ukey key], eqV (.pointer (some ⟨w.heap.size, 1, none⟩)), eqV (.slice ak lk ck), eqV (.int .i64 ((p : Int))), eqV (.slice a2 (lk - p) (ck - p)), lst3V (.slice a1 p ck) (.slice a2 (lk - p) (ck - p)) [ukey key], rdFV w2.heap.size (LK), eqV (.pointer (some ⟨w.heap.size, 2, none⟩)), eqV (.slice av lk cv), eqV (.int .i64 (p : Int)), eqV (.slice a3 p cv), eqV (.string v), lstV [.string v], eqV (.pointer (some ⟨w.heap.size, 2, none⟩)), eqV (.slice av lk cv), eqV (.int .i64 ((p : Int))), eqV (.slice a4 (lk - p) (cv - p)), lst3V (.slice a3 p cv) (.slice a4 (lk - p) (cv - p)) [.string v], rdFV w2.heap.size (LV), nodSP w2.heap.size LK LV, anyV] (by kernel_rfl) (by kernel_rfl) (by rfl) ?owes ?ends
  case owes =>
    refine OwesAll.cons (k := 0) ?_ ?_
    · intro o ho a wx hS hold hdep K hK
      simp only [List.getElem?_toArray, List.getElem?_cons_succ, List.getElem?_cons_zero, Option.some.injEq] at ho
      subst ho
      have HK := Lib.hid hK
      clear hK
      have d3 : a.tmps.getD 3 undef = .pointer (some ⟨w.heap.size, 0, none⟩) := hold 3 (unset_of (by kernel_rfl))
      clear hold hdep
      rw [Array.getD_eq_getD_getElem?] at d3
      rw [if_pos (by rfl)]
      go_simp
      exact HK.out _ _ rfl (Below.refl _ _)
    refine OwesAll.cons (k := 1) ?_ ?_
    · intro o ho a wx hS hold hdep K hK
      simp only [List.getElem?_toArray, List.getElem?_cons_succ, List.getElem?_cons_zero, Option.some.injEq] at ho
      subst ho
      have HK := Lib.hid hK
      clear hK
      have d29 : a.tmps.getD 29 undef = .pointer (some ⟨w.heap.size, 1, none⟩) := dep_at hdep 0 rfl rfl (by kernel_rfl)
      clear hold hdep
      rw [Array.getD_eq_getD_getElem?] at d29
      rw [if_pos (by rfl)]
      have c0 : wx.cell? ⟨w.heap.size, 1, none⟩ = some (.slice ak lk ck) := (hS.cell (p := ⟨w.heap.size, 1, none⟩) lt0).trans c1
      go_simp
      exact HK.out _ _ rfl (Below.refl _ _)
    refine OwesAll.cons (k := 2) ?_ ?_
    · intro o ho a wx hS hold hdep K hK
      simp only [List.getElem?_toArray, List.getElem?_cons_succ, List.getElem?_cons_zero, Option.some.injEq] at ho
      subst ho
      have HK := Lib.hid hK
      clear hK
      have d7 : a.tmps.getD 7 undef = .int .i64 (p : Int) := hold 7 (unset_of (by kernel_rfl))
      clear hold hdep
      rw [Array.getD_eq_getD_getElem?] at d7
      rw [if_pos (by rfl)]
      go_simp
      exact HK.out _ _ rfl (Below.refl _ _)
    refine OwesAll.cons (k := 3) ?_ ?_
    · intro o ho a wx hS hold hdep K hK
      simp only [List.getElem?_toArray, List.getElem?_cons_succ, List.getElem?_cons_zero, Option.some.injEq] at ho
      subst ho
      have HK := Lib.hid hK
      clear hK
      have d30 : a.tmps.getD 30 undef = .slice ak lk ck := dep_at hdep 1 rfl rfl (by kernel_rfl)
      have d31 : a.tmps.getD 31 undef = .int .i64 (p : Int) := dep_at hdep 2 rfl rfl (by kernel_rfl)
      clear hold hdep
      rw [Array.getD_eq_getD_getElem?] at d30
      rw [Array.getD_eq_getD_getElem?] at d31
      rw [if_pos (by rfl)]
      go_simp
      refine HK.out _ _ ?_ (Below.refl _ _)
      show _ = _
      rw [← S1.out]
      simp [sliced, add0, Addr.add]
    refine OwesAll.cons (k := 4) ?_ ?_
    · intro o ho a wx hS hold hdep K hK
      simp only [List.getElem?_toArray, List.getElem?_cons_succ, List.getElem?_cons_zero, Option.some.injEq] at ho
      subst ho
      have HK := Lib.hid hK
      clear hK
      have d1 : a.tmps.getD 1 undef = .int .u64 key := hold 1 (unset_of (by kernel_rfl))
      clear hold hdep
      rw [Array.getD_eq_getD_getElem?] at d1
      rw [if_pos (by rfl)]
      go_simp
      exact HK.out _ _ rfl (Below.refl _ _)
    refine OwesAll.cons (k := 5) ?_ ?_
    · intro o ho a wx hS hold hdep K hK
      simp only [List.getElem?_toArray, List.getElem?_cons_succ, List.getElem?_cons_zero, Option.some.injEq] at ho
      subst ho
      have HK := Lib.hid hK
      clear hK
      have d33 : a.tmps.getD 33 undef = .int .u64 key := dep_at hdep 4 rfl rfl (by kernel_rfl)
      clear hold hdep
      rw [Array.getD_eq_getD_getElem?] at d33
      rw [if_pos (by rfl)]
      go_simp
      exact HK.out _ _ ⟨_, rfl, Rd.made _ _ _⟩ (below_made _ _)
    refine OwesAll.cons (k := 6) ?_ ?_
    · intro o ho a wx hS hold hdep K hK
      simp only [List.getElem?_toArray, List.getElem?_cons_succ, List.getElem?_cons_zero, Option.some.injEq] at ho
      subst ho
      have HK := Lib.hid hK
      clear hK
      have d3 : a.tmps.getD 3 undef = .pointer (some ⟨w.heap.size, 0, none⟩) := hold 3 (unset_of (by kernel_rfl))
      clear hold hdep
      rw [Array.getD_eq_getD_getElem?] at d3
      rw [if_pos (by rfl)]
      go_simp
      exact HK.out _ _ rfl (Below.refl _ _)
    refine OwesAll.cons (k := 7) ?_ ?_
    · intro o ho a wx hS hold hdep K hK
      simp only [List.getElem?_toArray, List.getElem?_cons_succ, List.getElem?_cons_zero, Option.some.injEq] at ho
      subst ho
      have HK := Lib.hid hK
      clear hK
      have d35 : a.tmps.getD 35 undef = .pointer (some ⟨w.heap.size, 1, none⟩) := dep_at hdep 6 rfl rfl (by kernel_rfl)
      clear hold hdep
      rw [Array.getD_eq_getD_getElem?] at d35
      rw [if_pos (by rfl)]
      have c0 : wx.cell? ⟨w.heap.size, 1, none⟩ = some (.slice ak lk ck) := (hS.cell (p := ⟨w.heap.size, 1, none⟩) lt0).trans c1
      go_simp
      exact HK.out _ _ rfl (Below.refl _ _)
    refine OwesAll.cons (k := 8) ?_ ?_
    · intro o ho a wx hS hold hdep K hK
      simp only [List.getElem?_toArray, List.getElem?_cons_succ, List.getElem?_cons_zero, Option.some.injEq] at ho
      subst ho
      have HK := Lib.hid hK
      clear hK
      have d9 : a.tmps.getD 9 undef = .int .i64 ((p : Int)) := hold 9 (unset_of (by kernel_rfl))
      clear hold hdep
      rw [Array.getD_eq_getD_getElem?] at d9
      rw [if_pos (by rfl)]
      go_simp
      exact HK.out _ _ rfl (Below.refl _ _)
    refine OwesAll.cons (k := 9) ?_ ?_
    · intro o ho a wx hS hold hdep K hK
      simp only [List.getElem?_toArray, List.getElem?_cons_succ, List.getElem?_cons_zero, Option.some.injEq] at ho
      subst ho
      have HK := Lib.hid hK
      clear hK
      have d36 : a.tmps.getD 36 undef = .slice ak lk ck := dep_at hdep 7 rfl rfl (by kernel_rfl)
      have d37 : a.tmps.getD 37 undef = .int .i64 ((p : Int)) := dep_at hdep 8 rfl rfl (by kernel_rfl)
      clear hold hdep
      rw [Array.getD_eq_getD_getElem?] at d36
      rw [Array.getD_eq_getD_getElem?] at d37
      rw [if_pos (by rfl)]
      go_simp
      refine HK.out _ _ ?_ (Below.refl _ _)
      show _ = _
      rw [← S2.out]
      simp [sliced, add0, Addr.add]
    refine OwesAll.cons (k := 10) ?_ ?_
    · intro o ho a wx hS hold hdep K hK
      simp only [List.getElem?_toArray, List.getElem?_cons_succ, List.getElem?_cons_zero, Option.some.injEq] at ho
      subst ho
      have HK := Lib.hid hK
      clear hK
      have d32 : a.tmps.getD 32 undef = .slice a1 p ck := dep_at hdep 3 rfl rfl (by kernel_rfl)
      obtain ⟨a34, d34, r34⟩ : ∃ a', a.tmps.getD 34 undef = .slice a' 1 1 ∧ Rd wx a' [ukey key] := dep_at hdep 5 rfl rfl (by kernel_rfl)
      have d38 : a.tmps.getD 38 undef = .slice a2 (lk - p) (ck - p) := dep_at hdep 9 rfl rfl (by kernel_rfl)
      clear hold hdep
      rw [Array.getD_eq_getD_getElem?] at d32
      rw [Array.getD_eq_getD_getElem?] at d34
      rw [Array.getD_eq_getD_getElem?] at d38
      rw [if_pos (by rfl)]
      go_simp
      exact HK.out _ _ ⟨_, a34, rfl, Rd.made _ _ _, r34.below (below_made _ _)⟩ (below_made _ _)
    refine OwesAll.cons (k := 11) ?_ ?_
    · intro o ho a wx hS hold hdep K hK
      simp only [List.getElem?_toArray, List.getElem?_cons_succ, List.getElem?_cons_zero, Option.some.injEq] at ho
      subst ho
      have HK := Lib.hid hK
      clear hK
      obtain ⟨a39, m39, d39, r39, s39⟩ : ∃ a' a5, a.tmps.getD 39 undef = .slice a' 3 3 ∧ Rd wx a' [.slice a1 p ck, .slice a5 1 1, .slice a2 (lk - p) (ck - p)] ∧ Rd wx a5 [ukey key] := dep_at hdep 10 rfl rfl (by kernel_rfl)
      clear hold hdep
      rw [Array.getD_eq_getD_getElem?] at d39
      rw [if_pos (by rfl)]
      have CA := CK.out wx a39 m39 (chain B2.out hS) r39 s39
      clear r39 s39
      go_simp
      go_wp2_with fail
      refine CA.mono ?_
      rintro e w9 ⟨⟨v9, rfl, h9⟩, b9⟩
      exact HK.out _ _ (out_rdFV h9 hS.size) b9
    refine OwesAll.cons (k := 12) ?_ ?_
    · intro o ho a wx hS hold hdep K hK
      simp only [List.getElem?_toArray, List.getElem?_cons_succ, List.getElem?_cons_zero, Option.some.injEq] at ho
      subst ho
      have HK := Lib.hid hK
      clear hK
      have d3 : a.tmps.getD 3 undef = .pointer (some ⟨w.heap.size, 0, none⟩) := hold 3 (unset_of (by kernel_rfl))
      clear hold hdep
      rw [Array.getD_eq_getD_getElem?] at d3
      rw [if_pos (by rfl)]
      go_simp
      exact HK.out _ _ rfl (Below.refl _ _)
    refine OwesAll.cons (k := 13) ?_ ?_
    · intro o ho a wx hS hold hdep K hK
      simp only [List.getElem?_toArray, List.getElem?_cons_succ, List.getElem?_cons_zero, Option.some.injEq] at ho
      subst ho
      have HK := Lib.hid hK
      clear hK
      have d41 : a.tmps.getD 41 undef = .pointer (some ⟨w.heap.size, 2, none⟩) := dep_at hdep 12 rfl rfl (by kernel_rfl)
      clear hold hdep
      rw [Array.getD_eq_getD_getElem?] at d41
      rw [if_pos (by rfl)]
      have c0 : wx.cell? ⟨w.heap.size, 2, none⟩ = some (.slice av lk cv) := (hS.cell (p := ⟨w.heap.size, 2, none⟩) lt0).trans c2
      go_simp
      exact HK.out _ _ rfl (Below.refl _ _)
    refine OwesAll.cons (k := 14) ?_ ?_
    · intro o ho a wx hS hold hdep K hK
      simp only [List.getElem?_toArray, List.getElem?_cons_succ, List.getElem?_cons_zero, Option.some.injEq] at ho
      subst ho
      have HK := Lib.hid hK
      clear hK
      have d7 : a.tmps.getD 7 undef = .int .i64 (p : Int) := hold 7 (unset_of (by kernel_rfl))
      clear hold hdep
      rw [Array.getD_eq_getD_getElem?] at d7
      rw [if_pos (by rfl)]
      go_simp
      exact HK.out _ _ rfl (Below.refl _ _)
    refine OwesAll.cons (k := 15) ?_ ?_
    · intro o ho a wx hS hold hdep K hK
      simp only [List.getElem?_toArray, List.getElem?_cons_succ, List.getElem?_cons_zero, Option.some.injEq] at ho
      subst ho
      have HK := Lib.hid hK
      clear hK
      have d42 : a.tmps.getD 42 undef = .slice av lk cv := dep_at hdep 13 rfl rfl (by kernel_rfl)
      have d43 : a.tmps.getD 43 undef = .int .i64 (p : Int) := dep_at hdep 14 rfl rfl (by kernel_rfl)
      clear hold hdep
      rw [Array.getD_eq_getD_getElem?] at d42
      rw [Array.getD_eq_getD_getElem?] at d43
      rw [if_pos (by rfl)]
      go_simp
      refine HK.out _ _ ?_ (Below.refl _ _)
      show _ = _
      rw [← S3.out]
      simp [sliced, add0, Addr.add]
    refine OwesAll.cons (k := 16) ?_ ?_
    · intro o ho a wx hS hold hdep K hK
      simp only [List.getElem?_toArray, List.getElem?_cons_succ, List.getElem?_cons_zero, Option.some.injEq] at ho
      subst ho
      have HK := Lib.hid hK
      clear hK
      have d2 : a.tmps.getD 2 undef = .string v := hold 2 (unset_of (by kernel_rfl))
      clear hold hdep
      rw [Array.getD_eq_getD_getElem?] at d2
      rw [if_pos (by rfl)]
      go_simp
      exact HK.out _ _ rfl (Below.refl _ _)
    refine OwesAll.cons (k := 17) ?_ ?_
    · intro o ho a wx hS hold hdep K hK
      simp only [List.getElem?_toArray, List.getElem?_cons_succ, List.getElem?_cons_zero, Option.some.injEq] at ho
      subst ho
      have HK := Lib.hid hK
      clear hK
      have d45 : a.tmps.getD 45 undef = .string v := dep_at hdep 16 rfl rfl (by kernel_rfl)
      clear hold hdep
      rw [Array.getD_eq_getD_getElem?] at d45
      rw [if_pos (by rfl)]
      go_simp
      exact HK.out _ _ ⟨_, rfl, Rd.made _ _ _⟩ (below_made _ _)
    refine OwesAll.cons (k := 18) ?_ ?_
    · intro o ho a wx hS hold hdep K hK
      simp only [List.getElem?_toArray, List.getElem?_cons_succ, List.getElem?_cons_zero, Option.some.injEq] at ho
      subst ho
      have HK := Lib.hid hK
      clear hK
      have d3 : a.tmps.getD 3 undef = .pointer (some ⟨w.heap.size, 0, none⟩) := hold 3 (unset_of (by kernel_rfl))
      clear hold hdep
      rw [Array.getD_eq_getD_getElem?] at d3
      rw [if_pos (by rfl)]
      go_simp
      exact HK.out _ _ rfl (Below.refl _ _)
    refine OwesAll.cons (k := 19) ?_ ?_
    · intro o ho a wx hS hold hdep K hK
      simp only [List.getElem?_toArray, List.getElem?_cons_succ, List.getElem?_cons_zero, Option.some.injEq] at ho
      subst ho
      have HK := Lib.hid hK
      clear hK
      have d47 : a.tmps.getD 47 undef = .pointer (some ⟨w.heap.size, 2, none⟩) := dep_at hdep 18 rfl rfl (by kernel_rfl)
      clear hold hdep
      rw [Array.getD_eq_getD_getElem?] at d47
      rw [if_pos (by rfl)]
      have c0 : wx.cell? ⟨w.heap.size, 2, none⟩ = some (.slice av lk cv) := (hS.cell (p := ⟨w.heap.size, 2, none⟩) lt0).trans c2
      go_simp
      exact HK.out _ _ rfl (Below.refl _ _)
    refine OwesAll.cons (k := 20) ?_ ?_
    · intro o ho a wx hS hold hdep K hK
      simp only [List.getElem?_toArray, List.getElem?_cons_succ, List.getElem?_cons_zero, Option.some.injEq] at ho
      subst ho
      have HK := Lib.hid hK
      clear hK
      have d9 : a.tmps.getD 9 undef = .int .i64 ((p : Int)) := hold 9 (unset_of (by kernel_rfl))
      clear hold hdep
      rw [Array.getD_eq_getD_getElem?] at d9
      rw [if_pos (by rfl)]
      go_simp
      exact HK.out _ _ rfl (Below.refl _ _)
    refine OwesAll.cons (k := 21) ?_ ?_
    · intro o ho a wx hS hold hdep K hK
      simp only [List.getElem?_toArray, List.getElem?_cons_succ, List.getElem?_cons_zero, Option.some.injEq] at ho
      subst ho
      have HK := Lib.hid hK
      clear hK
      have d48 : a.tmps.getD 48 undef = .slice av lk cv := dep_at hdep 19 rfl rfl (by kernel_rfl)
      have d49 : a.tmps.getD 49 undef = .int .i64 ((p : Int)) := dep_at hdep 20 rfl rfl (by kernel_rfl)
      clear hold hdep
      rw [Array.getD_eq_getD_getElem?] at d48
      rw [Array.getD_eq_getD_getElem?] at d49
      rw [if_pos (by rfl)]
      go_simp
      refine HK.out _ _ ?_ (Below.refl _ _)
      show _ = _
      rw [← S4.out]
      simp [sliced, add0, Addr.add]
    refine OwesAll.cons (k := 22) ?_ ?_
    · intro o ho a wx hS hold hdep K hK
      simp only [List.getElem?_toArray, List.getElem?_cons_succ, List.getElem?_cons_zero, Option.some.injEq] at ho
      subst ho
      have HK := Lib.hid hK
      clear hK
      have d44 : a.tmps.getD 44 undef = .slice a3 p cv := dep_at hdep 15 rfl rfl (by kernel_rfl)
      obtain ⟨a46, d46, r46⟩ : ∃ a', a.tmps.getD 46 undef = .slice a' 1 1 ∧ Rd wx a' [.string v] := dep_at hdep 17 rfl rfl (by kernel_rfl)
      have d50 : a.tmps.getD 50 undef = .slice a4 (lk - p) (cv - p) := dep_at hdep 21 rfl rfl (by kernel_rfl)
      clear hold hdep
      rw [Array.getD_eq_getD_getElem?] at d44
      rw [Array.getD_eq_getD_getElem?] at d46
      rw [Array.getD_eq_getD_getElem?] at d50
      rw [if_pos (by rfl)]
      go_simp
      exact HK.out _ _ ⟨_, a46, rfl, Rd.made _ _ _, r46.below (below_made _ _)⟩ (below_made _ _)
    refine OwesAll.cons (k := 23) ?_ ?_
    · intro o ho a wx hS hold hdep K hK
      simp only [List.getElem?_toArray, List.getElem?_cons_succ, List.getElem?_cons_zero, Option.some.injEq] at ho
      subst ho
      have HK := Lib.hid hK
      clear hK
      obtain ⟨a51, m51, d51, r51, s51⟩ : ∃ a' a5, a.tmps.getD 51 undef = .slice a' 3 3 ∧ Rd wx a' [.slice a3 p cv, .slice a5 1 1, .slice a4 (lk - p) (cv - p)] ∧ Rd wx a5 [.string v] := dep_at hdep 22 rfl rfl (by kernel_rfl)
      clear hold hdep
      rw [Array.getD_eq_getD_getElem?] at d51
      rw [if_pos (by rfl)]
      have CA := CV.out wx a51 m51 (chain B2.out hS) r51 s51
      clear r51 s51
      go_simp
      go_wp2_with fail
      refine CA.mono ?_
      rintro e w9 ⟨⟨v9, rfl, h9⟩, b9⟩
      exact HK.out _ _ (out_rdFV h9 hS.size) b9
    refine OwesAll.cons (k := 24) ?_ ?_
    · intro o ho a wx hS hold hdep K hK
      simp only [List.getElem?_toArray, List.getElem?_cons_succ, List.getElem?_cons_zero, Option.some.injEq] at ho
      subst ho
      have HK := Lib.hid hK
      clear hK
      obtain ⟨a40, c40, d40, r40, l40, m40, n40⟩ : ∃ a' c', a.tmps.getD 40 undef = .slice a' (LK).length c' ∧ Rd wx a' (LK) ∧ (LK).length ≤ c' ∧ c' ≤ maxLen ∧ ∀ x, a' = some x → w2.heap.size ≤ x.block := dep_at hdep 11 rfl rfl (by kernel_rfl)
      obtain ⟨a52, c52, d52, r52, l52, m52, n52⟩ : ∃ a' c', a.tmps.getD 52 undef = .slice a' (LV).length c' ∧ Rd wx a' (LV) ∧ (LV).length ≤ c' ∧ c' ≤ maxLen ∧ ∀ x, a' = some x → w2.heap.size ≤ x.block := dep_at hdep 23 rfl rfl (by kernel_rfl)
      clear hold hdep
      rw [Array.getD_eq_getD_getElem?] at d40
      rw [Array.getD_eq_getD_getElem?] at d52
      rw [if_pos (by rfl)]
      go_simp
      exact HK.out _ _ ⟨_, _, _, _, rfl, r40, r52, l40, m40, l52, m52, n40, n52⟩ (Below.refl _ _)
    refine OwesAll.skip (f := 25) ?_
    exact OwesAll.nil
  case ends =>
    intro a wx hS hsz hdf hold hdone
    simp only [List.getElem?_toArray, List.getElem?_cons_succ, List.getElem?_cons_zero]
    intro K hK
    have HK := Lib.hid hK
    clear hK
    obtain ⟨xa, xb, xc, xd, d53, q1, q2, q3, q4, q5, q6, q7, q8⟩ : ∃ xa xb xc xd, a.tmps.getD 53 undef = .agg #[.bool true, .slice xa LK.length xc, .slice xb LV.length xd, .slice none 0 0] ∧ Rd wx xa LK ∧ Rd wx xb LV ∧ LK.length ≤ xc ∧ xc ≤ maxLen ∧ LV.length ≤ xd ∧ xd ≤ maxLen ∧ (∀ x, xa = some x → w2.heap.size ≤ x.block) ∧ ∀ x, xb = some x → w2.heap.size ≤ x.block := hdone 24 _ 53 rfl (by decide) rfl
    have d6 : a.tmps.getD 6 undef = .pointer (some ⟨w.heap.size + 1, 0, none⟩) := hold 6 (unset_of (by kernel_rfl))
    have hdf' : a.defers = [] := hdf
    clear hold hdone hsz hdf
    rw [Array.getD_eq_getD_getElem?] at d53 d6
    have XB := kept X.out hS
    rw [show (w.alloc (.cells #[.bool true, .slice ak lk ck, .slice av lk cv, .slice ac lc cc] 26)).heap.size = w.heap.size + 1 from by simp] at XB
    have y0 : wx.cell? ⟨w.heap.size + 1, 0, none⟩ = some (.bool false) := by rw [Go.Joins.cell_of_block XB]; rfl
    have y1 : wx.cell? ⟨w.heap.size + 1, 1, none⟩ = some (.slice none 0 0) := by rw [Go.Joins.cell_of_block XB]; rfl
    have y2 : wx.cell? ⟨w.heap.size + 1, 2, none⟩ = some (.slice none 0 0) := by rw [Go.Joins.cell_of_block XB]; rfl
    have y3 : wx.cell? ⟨w.heap.size + 1, 3, none⟩ = some (.slice none 0 0) := by rw [Go.Joins.cell_of_block XB]; rfl
    have f0 := Go.Joins.unfrozen_of_block XB 0
    have f1 := Go.Joins.unfrozen_of_block XB 1
    have f2 := Go.Joins.unfrozen_of_block XB 2
    have f3 := Go.Joins.unfrozen_of_block XB 3
    rw [if_pos (by rfl)]
    go_simp
    refine HK.out _ _ ?_
    have B9 : Below w.heap.size w ((((wx.setCell ⟨w.heap.size + 1, 0, none⟩ (.bool true)).setCell ⟨w.heap.size + 1, 1, none⟩ (.slice xa LK.length xc)).setCell ⟨w.heap.size + 1, 2, none⟩ (.slice xb LV.length xd)).setCell ⟨w.heap.size + 1, 3, none⟩ (.slice none 0 0)) :=
      ((((chain B2.out hS).setCell (by simp) _).setCell (by simp) _).setCell (by simp) _).setCell (by simp) _
    clear y0 y1 y2 y3 f0 f1 f2 f3 HK K
    go_wp2_with fail
    have lt1 : w.heap.size + 1 < w2.heap.size := by have := (Array.getElem?_eq_some_iff.1 X.out).1; simpa using this
    have FIN : Hid (NodOut w.heap.size LK LV (.returned (.agg #[.bool true, .slice xa LK.length xc, .slice xb LV.length xd, .slice none 0 0])) ((((wx.setCell ⟨w.heap.size + 1, 0, none⟩ (.bool true)).setCell ⟨w.heap.size + 1, 1, none⟩ (.slice xa LK.length xc)).setCell ⟨w.heap.size + 1, 2, none⟩ (.slice xb LV.length xd)).setCell ⟨w.heap.size + 1, 3, none⟩ (.slice none 0 0))) :=
      Lib.hid ⟨_, rfl, xa, xb, xc, xd, rfl, q1.set4 _ _ _ _ _ (fun x hx => Nat.lt_of_lt_of_le lt1 (q7 x hx)), q2.set4 _ _ _ _ _ (fun x hx => Nat.lt_of_lt_of_le lt1 (q8 x hx)), q3, q4, q5, q6, fun x hx => Nat.le_trans (Nat.le_of_lt lt0) (q7 x hx), fun x hx => Nat.le_trans (Nat.le_of_lt lt0) (q8 x hx)⟩
    have XR : (((((wx.setCell ⟨w.heap.size + 1, 0, none⟩ (.bool true)).setCell ⟨w.heap.size + 1, 1, none⟩ (.slice xa LK.length xc)).setCell ⟨w.heap.size + 1, 2, none⟩ (.slice xb LV.length xd)).setCell ⟨w.heap.size + 1, 3, none⟩ (.slice none 0 0))).heap[w.heap.size + 1]? = some (.cells #[.bool true, .slice xa LK.length xc, .slice xb LV.length xd, .slice none 0 0] 26) := by
      rw [heap_setCell_same _ _ 3 _ _ _ (heap_setCell_same _ _ 2 _ _ _ (heap_setCell_same _ _ 1 _ _ _ (heap_setCell_same _ _ 0 _ _ _ XB)))]
      rfl
    generalize ((((wx.setCell ⟨w.heap.size + 1, 0, none⟩ (.bool true)).setCell ⟨w.heap.size + 1, 1, none⟩ (.slice xa LK.length xc)).setCell ⟨w.heap.size + 1, 2, none⟩ (.slice xb LV.length xd)).setCell ⟨w.heap.size + 1, 3, none⟩ (.slice none 0 0)) = wz at *
    have z0 : wz.cell? ⟨w.heap.size + 1, 0, none⟩ = some (.bool true) := by rw [Go.Joins.cell_of_block XR]; rfl
    have z1 : wz.cell? ⟨w.heap.size + 1, 1, none⟩ = some (.slice xa LK.length xc) := by rw [Go.Joins.cell_of_block XR]; rfl
    have z2 : wz.cell? ⟨w.heap.size + 1, 2, none⟩ = some (.slice xb LV.length xd) := by rw [Go.Joins.cell_of_block XR]; rfl
    have z3 : wz.cell? ⟨w.heap.size + 1, 3, none⟩ = some (.slice none 0 0) := by rw [Go.Joins.cell_of_block XR]; rfl
    exact bodyPost_ret (v := .agg #[.bool true, .slice xa LK.length xc, .slice xb LV.length xd, .slice none 0 0]) (by simp [results, Try.results13, go_sem, d6, z0, z1, z2, z3]) hdf' ⟨FIN.out, B9⟩
set_option maxHeartbeats 3200000 in
set_option maxRecDepth 20000 in
theorem nput_yes (ak av ac a1 a2 a3 a4 : Option Addr) (ck cv cc lk lc p : Nat) (key : Int) (v : ByteArray) (LK LV : List Value) (w : World)
    (WH : Hid (∀ w, Calls Try.prog 34 #[.agg #[.bool true, .slice ak lk ck, .slice av lk cv, .slice ac lc cc]] w fun e w' => e = .returned (.bool true) ∧ Below w.heap.size w w'))
    (FI : Hid (∀ w1, Below w.heap.size w w1 → Calls Try.prog 12 #[.agg #[.bool true, .slice ak lk ck, .slice av lk cv, .slice ac lc cc], .int .u64 key] w1 fun e w' => e = .returned (.tuple #[.int .i64 (p : Int), .bool true]) ∧ Below w1.heap.size w1 w'))
    (S1 : Hid (sliced ak 0 p ck 1 = .slice a1 p ck)) (S2 : Hid (sliced ak (p + 1) lk ck 1 = .slice a2 (lk - (p + 1)) (ck - (p + 1)))) (S3 : Hid (sliced av 0 p cv 1 = .slice a3 p cv)) (S4 : Hid (sliced av (p + 1) lk cv 1 = .slice a4 (lk - (p + 1)) (cv - (p + 1))))
    (CK : Hid (∀ wx a m, Below w.heap.size w wx → Rd wx a [.slice a1 p ck, .slice m 1 1, .slice a2 (lk - (p + 1)) (ck - (p + 1))] → Rd wx m [ukey key] → Calls Try.prog 35 #[.slice a 3 3] wx fun e w' => RowOut wx.heap.size 27 LK e w' ∧ Below wx.heap.size wx w'))
    (CV : Hid (∀ wx a m, Below w.heap.size w wx → Rd wx a [.slice a3 p cv, .slice m 1 1, .slice a4 (lk - (p + 1)) (cv - (p + 1))] → Rd wx m [.string v] → Calls Try.prog 36 #[.slice a 3 3] wx fun e w' => RowOut wx.heap.size 9 LV e w' ∧ Below wx.heap.size wx w'))
    (h1 : p ≤ lk) (h2 : (p + 1) ≤ lk) (h4 : lk ≤ ck) (h5 : lk ≤ cv) (h6 : lk ≤ 1000) :
    Calls Try.prog 13 #[.agg #[.bool true, .slice ak lk ck, .slice av lk cv, .slice ac lc cc], .int .u64 key, .string v] w fun e w' => NodOut w.heap.size LK LV e w' ∧ Below w.heap.size w w' := by
  have i1 : (p : Int) ≤ (ck : Int) := by omega
  have i2 : (p : Int) + 1 ≤ (lk : Int) := by omega
  have i3 : (p : Int) ≤ (cv : Int) := by omega
  have i4 : (p : Int) + 1 ≤ (lk : Int) := by omega
  have i5 : (p : Int) ≤ 1000 := by omega
  go_enter Try.func13, Try.ntmps13
  go_wp2_with fail
  refine (WH.out _).mono ?_
  rintro e w1 ⟨rfl, b1⟩
  have X1 := kept (heap_alloc_new (w.alloc _) _) b1
  have Y1 := kept (show ((w.alloc (.cells #[.bool true, .slice ak lk ck, .slice av lk cv, .slice ac lc cc] 26)).alloc (.cells #[.bool false, .slice none 0 0, .slice none 0 0, .slice none 0 0] 26)).heap[w.heap.size]? = some (.cells #[.bool true, .slice ak lk ck, .slice av lk cv, .slice ac lc cc] 26) from (heap_alloc_old _ _ (by simp)).trans (heap_alloc_new w _)) b1
  have B1 : Below w.heap.size w w1 := (((Below.refl _ _).alloc (Nat.le_refl _) _).alloc (by simp) _).trans (b1.mono (by simp; omega))
  have k0 : w1.cell? ⟨w.heap.size, 0, none⟩ = some (.bool true) := by rw [Go.Joins.cell_of_block Y1]; rfl
  have k1 : w1.cell? ⟨w.heap.size, 1, none⟩ = some (.slice ak lk ck) := by rw [Go.Joins.cell_of_block Y1]; rfl
  have k2 : w1.cell? ⟨w.heap.size, 2, none⟩ = some (.slice av lk cv) := by rw [Go.Joins.cell_of_block Y1]; rfl
  have k3 : w1.cell? ⟨w.heap.size, 3, none⟩ = some (.slice ac lc cc) := by rw [Go.Joins.cell_of_block Y1]; rfl
  have XH := Lib.hid X1
  have YH := Lib.hid Y1
  have BH := Lib.hid B1
  clear b1 X1 Y1 B1
  go_wp2_with fail
  refine (FI.out _ BH.out).mono ?_
  rintro e w2 ⟨rfl, b2⟩
  have X2 := kept XH.out b2
  have Y2 := kept YH.out b2
  have B2 := Lib.hid (chain BH.out b2)
  clear XH YH BH k0 k1 k2 k3 b2
  have lt0 : w.heap.size < w2.heap.size := (Array.getElem?_eq_some_iff.1 Y2).1
  have c1 : w2.cell? ⟨w.heap.size, 1, none⟩ = some (.slice ak lk ck) := by rw [Go.Joins.cell_of_block Y2]; rfl
  have c2 : w2.cell? ⟨w.heap.size, 2, none⟩ = some (.slice av lk cv) := by rw [Go.Joins.cell_of_block Y2]; rfl
  have X := Lib.hid X2
  have Y := Lib.hid Y2
  clear X2 Y2 FI WH
  go_wp2_with fail
  refine region_kit 25 54 [eqV (.pointer (some ⟨w.heap.size, 1, none⟩)), eqV (.slice ak lk ck), eqV (.int .i64 (p : Int)), eqV (.slice a1 p ck), eqV (.int .u64 key), lstV [ukey key], eqV (.pointer (some ⟨w.heap.size, 1, none⟩)), eqV (.slice ak lk ck), eqV (.int .i64 ((p : Int) + 1)), eqV (.slice a2 (lk - (p + 1)) (ck - (p + 1))), lst3V (.slice a1 p ck) (.slice a2 (lk - (p + 1)) (ck - (p + 1))) [ukey key], rdFV w2.heap.size (LK), eqV (.pointer (some ⟨w.heap.size, 2, none⟩)), eqV (.slice av lk cv), eqV (.int .i64 (p : Int)), eqV (.slice a3 p cv), eqV (.string v), lstV [.string v], eqV (.pointer (some ⟨w.heap.size, 2, none⟩)), eqV (.slice av lk cv), eqV (.int .i64 ((p : Int) + 1)), eqV (.slice a4 (lk - (p + 1)) (cv - (p + 1))), lst3V (.slice a3 p cv) (.slice a4 (lk - (p + 1)) (cv - (p + 1))) [.string v], rdFV w2.heap.size (LV), nodSP w2.heap.size LK LV, anyV] (by kernel_rfl) (by kernel_rfl) (by rfl) ?owes ?ends
  case owes =>
    refine OwesAll.cons (k := 0) ?_ ?_
    · intro o ho a wx hS hold hdep K hK
      simp only [List.getElem?_toArray, List.getElem?_cons_succ, List.getElem?_cons_zero, Option.some.injEq] at ho
      subst ho
      have HK := Lib.hid hK
      clear hK
      have d3 : a.tmps.getD 3 undef = .pointer (some ⟨w.heap.size, 0, none⟩) := hold 3 (unset_of (by kernel_rfl))
      clear hold hdep
      rw [Array.getD_eq_getD_getElem?] at d3
      rw [if_pos (by rfl)]
      go_simp
      exact HK.out _ _ rfl (Below.refl _ _)
    refine OwesAll.cons (k := 1) ?_ ?_
    · intro o ho a wx hS hold hdep K hK
      simp only [List.getElem?_toArray, List.getElem?_cons_succ, List.getElem?_cons_zero, Option.some.injEq] at ho
      subst ho
      have HK := Lib.hid hK
      clear hK
      have d29 : a.tmps.getD 29 undef = .pointer (some ⟨w.heap.size, 1, none⟩) := dep_at hdep 0 rfl rfl (by kernel_rfl)
      clear hold hdep
      rw [Array.getD_eq_getD_getElem?] at d29
      rw [if_pos (by rfl)]
      have c0 : wx.cell? ⟨w.heap.size, 1, none⟩ = some (.slice ak lk ck) := (hS.cell (p := ⟨w.heap.size, 1, none⟩) lt0).trans c1
      go_simp
      exact HK.out _ _ rfl (Below.refl _ _)
    refine OwesAll.cons (k := 2) ?_ ?_
    · intro o ho a wx hS hold hdep K hK
      simp only [List.getElem?_toArray, List.getElem?_cons_succ, List.getElem?_cons_zero, Option.some.injEq] at ho
      subst ho
      have HK := Lib.hid hK
      clear hK
      have d7 : a.tmps.getD 7 undef = .int .i64 (p : Int) := hold 7 (unset_of (by kernel_rfl))
      clear hold hdep
      rw [Array.getD_eq_getD_getElem?] at d7
      rw [if_pos (by rfl)]
      go_simp
      exact HK.out _ _ rfl (Below.refl _ _)
    refine OwesAll.cons (k := 3) ?_ ?_
    · intro o ho a wx hS hold hdep K hK
      simp only [List.getElem?_toArray, List.getElem?_cons_succ, List.getElem?_cons_zero, Option.some.injEq] at ho
      subst ho
      have HK := Lib.hid hK
      clear hK
      have d30 : a.tmps.getD 30 undef = .slice ak lk ck := dep_at hdep 1 rfl rfl (by kernel_rfl)
      have d31 : a.tmps.getD 31 undef = .int .i64 (p : Int) := dep_at hdep 2 rfl rfl (by kernel_rfl)
      clear hold hdep
      rw [Array.getD_eq_getD_getElem?] at d30
      rw [Array.getD_eq_getD_getElem?] at d31
      rw [if_pos (by rfl)]
      go_simp
      refine HK.out _ _ ?_ (Below.refl _ _)
      show _ = _
      rw [← S1.out]
      simp [sliced, add0, Addr.add]
    refine OwesAll.cons (k := 4) ?_ ?_
    · intro o ho a wx hS hold hdep K hK
      simp only [List.getElem?_toArray, List.getElem?_cons_succ, List.getElem?_cons_zero, Option.some.injEq] at ho
      subst ho
      have HK := Lib.hid hK
      clear hK
      have d1 : a.tmps.getD 1 undef = .int .u64 key := hold 1 (unset_of (by kernel_rfl))
      clear hold hdep
      rw [Array.getD_eq_getD_getElem?] at d1
      rw [if_pos (by rfl)]
      go_simp
      exact HK.out _ _ rfl (Below.refl _ _)
    refine OwesAll.cons (k := 5) ?_ ?_
    · intro o ho a wx hS hold hdep K hK
      simp only [List.getElem?_toArray, List.getElem?_cons_succ, List.getElem?_cons_zero, Option.some.injEq] at ho
      subst ho
      have HK := Lib.hid hK
      clear hK
      have d33 : a.tmps.getD 33 undef = .int .u64 key := dep_at hdep 4 rfl rfl (by kernel_rfl)
      clear hold hdep
      rw [Array.getD_eq_getD_getElem?] at d33
      rw [if_pos (by rfl)]
      go_simp
      exact HK.out _ _ ⟨_, rfl, Rd.made _ _ _⟩ (below_made _ _)
    refine OwesAll.cons (k := 6) ?_ ?_
    · intro o ho a wx hS hold hdep K hK
      simp only [List.getElem?_toArray, List.getElem?_cons_succ, List.getElem?_cons_zero, Option.some.injEq] at ho
      subst ho
      have HK := Lib.hid hK
      clear hK
      have d3 : a.tmps.getD 3 undef = .pointer (some ⟨w.heap.size, 0, none⟩) := hold 3 (unset_of (by kernel_rfl))
      clear hold hdep
      rw [Array.getD_eq_getD_getElem?] at d3
      rw [if_pos (by rfl)]
      go_simp
      exact HK.out _ _ rfl (Below.refl _ _)
    refine OwesAll.cons (k := 7) ?_ ?_
    · intro o ho a wx hS hold hdep K hK
      simp only [List.getElem?_toArray, List.getElem?_cons_succ, List.getElem?_cons_zero, Option.some.injEq] at ho
      subst ho
      have HK := Lib.hid hK
      clear hK
      have d35 : a.tmps.getD 35 undef = .pointer (some ⟨w.heap.size, 1, none⟩) := dep_at hdep 6 rfl rfl (by kernel_rfl)
      clear hold hdep
      rw [Array.getD_eq_getD_getElem?] at d35
      rw [if_pos (by rfl)]
      have c0 : wx.cell? ⟨w.heap.size, 1, none⟩ = some (.slice ak lk ck) := (hS.cell (p := ⟨w.heap.size, 1, none⟩) lt0).trans c1
      go_simp
      exact HK.out _ _ rfl (Below.refl _ _)
    refine OwesAll.cons (k := 8) ?_ ?_
    · intro o ho a wx hS hold hdep K hK
      simp only [List.getElem?_toArray, List.getElem?_cons_succ, List.getElem?_cons_zero, Option.some.injEq] at ho
      subst ho
      have HK := Lib.hid hK
      clear hK
      have d9 : a.tmps.getD 9 undef = .int .i64 ((p : Int) + 1) := hold 9 (unset_of (by kernel_rfl))
      clear hold hdep
      rw [Array.getD_eq_getD_getElem?] at d9
      rw [if_pos (by rfl)]
      go_simp
      exact HK.out _ _ rfl (Below.refl _ _)
    refine OwesAll.cons (k := 9) ?_ ?_
    · intro o ho a wx hS hold hdep K hK
      simp only [List.getElem?_toArray, List.getElem?_cons_succ, List.getElem?_cons_zero, Option.some.injEq] at ho
      subst ho
      have HK := Lib.hid hK
      clear hK
      have d36 : a.tmps.getD 36 undef = .slice ak lk ck := dep_at hdep 7 rfl rfl (by kernel_rfl)
      have d37 : a.tmps.getD 37 undef = .int .i64 ((p : Int) + 1) := dep_at hdep 8 rfl rfl (by kernel_rfl)
      clear hold hdep
      rw [Array.getD_eq_getD_getElem?] at d36
      rw [Array.getD_eq_getD_getElem?] at d37
      rw [if_pos (by rfl)]
      go_simp
      refine HK.out _ _ ?_ (Below.refl _ _)
      show _ = _
      rw [← S2.out]
      simp [sliced, add0, Addr.add]
    refine OwesAll.cons (k := 10) ?_ ?_
    · intro o ho a wx hS hold hdep K hK
      simp only [List.getElem?_toArray, List.getElem?_cons_succ, List.getElem?_cons_zero, Option.some.injEq] at ho
      subst ho
      have HK := Lib.hid hK
      clear hK
      have d32 : a.tmps.getD 32 undef = .slice a1 p ck := dep_at hdep 3 rfl rfl (by kernel_rfl)
      obtain ⟨a34, d34, r34⟩ : ∃ a', a.tmps.getD 34 undef = .slice a' 1 1 ∧ Rd wx a' [ukey key] := dep_at hdep 5 rfl rfl (by kernel_rfl)
      have d38 : a.tmps.getD 38 undef = .slice a2 (lk - (p + 1)) (ck - (p + 1)) := dep_at hdep 9 rfl rfl (by kernel_rfl)
      clear hold hdep
      rw [Array.getD_eq_getD_getElem?] at d32
      rw [Array.getD_eq_getD_getElem?] at d34
      rw [Array.getD_eq_getD_getElem?] at d38
      rw [if_pos (by rfl)]
      go_simp
      exact HK.out _ _ ⟨_, a34, rfl, Rd.made _ _ _, r34.below (below_made _ _)⟩ (below_made _ _)
    refine OwesAll.cons (k := 11) ?_ ?_
    · intro o ho a wx hS hold hdep K hK
      simp only [List.getElem?_toArray, List.getElem?_cons_succ, List.getElem?_cons_zero, Option.some.injEq] at ho
      subst ho
      have HK := Lib.hid hK
      clear hK
      obtain ⟨a39, m39, d39, r39, s39⟩ : ∃ a' a5, a.tmps.getD 39 undef = .slice a' 3 3 ∧ Rd wx a' [.slice a1 p ck, .slice a5 1 1, .slice a2 (lk - (p + 1)) (ck - (p + 1))] ∧ Rd wx a5 [ukey key] := dep_at hdep 10 rfl rfl (by kernel_rfl)
      clear hold hdep
      rw [Array.getD_eq_getD_getElem?] at d39
      rw [if_pos (by rfl)]
      have CA := CK.out wx a39 m39 (chain B2.out hS) r39 s39
      clear r39 s39
      go_simp
      go_wp2_with fail
      refine CA.mono ?_
      rintro e w9 ⟨⟨v9, rfl, h9⟩, b9⟩
      exact HK.out _ _ (out_rdFV h9 hS.size) b9
    refine OwesAll.cons (k := 12) ?_ ?_
    · intro o ho a wx hS hold hdep K hK
      simp only [List.getElem?_toArray, List.getElem?_cons_succ, List.getElem?_cons_zero, Option.some.injEq] at ho
      subst ho
      have HK := Lib.hid hK
      clear hK
      have d3 : a.tmps.getD 3 undef = .pointer (some ⟨w.heap.size, 0, none⟩) := hold 3 (unset_of (by kernel_rfl))
      clear hold hdep
      rw [Array.getD_eq_getD_getElem?] at d3
      rw [if_pos (by rfl)]
      go_simp
      exact HK.out _ _ rfl (Below.refl _ _)
    refine OwesAll.cons (k := 13) ?_ ?_
    · intro o ho a wx hS hold hdep K hK
      simp only [List.getElem?_toArray, List.getElem?_cons_succ, List.getElem?_cons_zero, Option.some.injEq] at ho
      subst ho
      have HK := Lib.hid hK
      clear hK
      have d41 : a.tmps.getD 41 undef = .pointer (some ⟨w.heap.size, 2, none⟩) := dep_at hdep 12 rfl rfl (by kernel_rfl)
      clear hold hdep
      rw [Array.getD_eq_getD_getElem?] at d41
      rw [if_pos (by rfl)]
      have c0 : wx.cell? ⟨w.heap.size, 2, none⟩ = some (.slice av lk cv) := (hS.cell (p := ⟨w.heap.size, 2, none⟩) lt0).trans c2
      go_simp
      exact HK.out _ _ rfl (Below.refl _ _)
    refine OwesAll.cons (k := 14) ?_ ?_
    · intro o ho a wx hS hold hdep K hK
      simp only [List.getElem?_toArray, List.getElem?_cons_succ, List.getElem?_cons_zero, Option.some.injEq] at ho
      subst ho
      have HK := Lib.hid hK
      clear hK
      have d7 : a.tmps.getD 7 undef = .int .i64 (p : Int) := hold 7 (unset_of (by kernel_rfl))
      clear hold hdep
      rw [Array.getD_eq_getD_getElem?] at d7
      rw [if_pos (by rfl)]
      go_simp
      exact HK.out _ _ rfl (Below.refl _ _)
    refine OwesAll.cons (k := 15) ?_ ?_
    · intro o ho a wx hS hold hdep K hK
      simp only [List.getElem?_toArray, List.getElem?_cons_succ, List.getElem?_cons_zero, Option.some.injEq] at ho
      subst ho
      have HK := Lib.hid hK
      clear hK
      have d42 : a.tmps.getD 42 undef = .slice av lk cv := dep_at hdep 13 rfl rfl (by kernel_rfl)
      have d43 : a.tmps.getD 43 undef = .int .i64 (p : Int) := dep_at hdep 14 rfl rfl (by kernel_rfl)
      clear hold hdep
      rw [Array.getD_eq_getD_getElem?] at d42
      rw [Array.getD_eq_getD_getElem?] at d43
      rw [if_pos (by rfl)]
      go_simp
      refine HK.out _ _ ?_ (Below.refl _ _)
      show _ = _
      rw [← S3.out]
      simp [sliced, add0, Addr.add]
    refine OwesAll.cons (k := 16) ?_ ?_
    · intro o ho a wx hS hold hdep K hK
      simp only [List.getElem?_toArray, List.getElem?_cons_succ, List.getElem?_cons_zero, Option.some.injEq] at ho
      subst ho
      have HK := Lib.hid hK
      clear hK
      have d2 : a.tmps.getD 2 undef = .string v := hold 2 (unset_of (by kernel_rfl))
      clear hold hdep
      rw [Array.getD_eq_getD_getElem?] at d2
      rw [if_pos (by rfl)]
      go_simp
      exact HK.out _ _ rfl (Below.refl _ _)
    refine OwesAll.cons (k := 17) ?_ ?_
    · intro o ho a wx hS hold hdep K hK
      simp only [List.getElem?_toArray, List.getElem?_cons_succ, List.getElem?_cons_zero, Option.some.injEq] at ho
      subst ho
      have HK := Lib.hid hK
      clear hK
      have d45 : a.tmps.getD 45 undef = .string v := dep_at hdep 16 rfl rfl (by kernel_rfl)
      clear hold hdep
      rw [Array.getD_eq_getD_getElem?] at d45
      rw [if_pos (by rfl)]
      go_simp
      exact HK.out _ _ ⟨_, rfl, Rd.made _ _ _⟩ (below_made _ _)
    refine OwesAll.cons (k := 18) ?_ ?_
    · intro o ho a wx hS hold hdep K hK
      simp only [List.getElem?_toArray, List.getElem?_cons_succ, List.getElem?_cons_zero, Option.some.injEq] at ho
      subst ho
      have HK := Lib.hid hK
      clear hK
      have d3 : a.tmps.getD 3 undef = .pointer (some ⟨w.heap.size, 0, none⟩) := hold 3 (unset_of (by kernel_rfl))
      clear hold hdep
      rw [Array.getD_eq_getD_getElem?] at d3
      rw [if_pos (by rfl)]
      go_simp
      exact HK.out _ _ rfl (Below.refl _ _)
    refine OwesAll.cons (k := 19) ?_ ?_
    · intro o ho a wx hS hold hdep K hK
      simp only [List.getElem?_toArray, List.getElem?_cons_succ, List.getElem?_cons_zero, Option.some.injEq] at ho
      subst ho
      have HK := Lib.hid hK
      clear hK
      have d47 : a.tmps.getD 47 undef = .pointer (some ⟨w.heap.size, 2, none⟩) := dep_at hdep 18 rfl rfl (by kernel_rfl)
      clear hold hdep
      rw [Array.getD_eq_getD_getElem?] at d47
      rw [if_pos (by rfl)]
      have c0 : wx.cell? ⟨w.heap.size, 2, none⟩ = some (.slice av lk cv) := (hS.cell (p := ⟨w.heap.size, 2, none⟩) lt0).trans c2
      go_simp
      exact HK.out _ _ rfl (Below.refl _ _)
    refine OwesAll.cons (k := 20) ?_ ?_
    · intro o ho a wx hS hold hdep K hK
      simp only [List.getElem?_toArray, List.getElem?_cons_succ, List.getElem?_cons_zero, Option.some.injEq] at ho
      subst ho
      have HK := Lib.hid hK
      clear hK
      have d9 : a.tmps.getD 9 undef = .int .i64 ((p : Int) + 1) := hold 9 (unset_of (by kernel_rfl))
      clear hold hdep
      rw [Array.getD_eq_getD_getElem?] at d9
      rw [if_pos (by rfl)]
      go_simp
      exact HK.out _ _ rfl (Below.refl _ _)
    refine OwesAll.cons (k := 21) ?_ ?_
    · intro o ho a wx hS hold hdep K hK
      simp only [List.getElem?_toArray, List.getElem?_cons_succ, List.getElem?_cons_zero, Option.some.injEq] at ho
      subst ho
      have HK := Lib.hid hK
      clear hK
      have d48 : a.tmps.getD 48 undef = .slice av lk cv := dep_at hdep 19 rfl rfl (by kernel_rfl)
      have d49 : a.tmps.getD 49 undef = .int .i64 ((p : Int) + 1) := dep_at hdep 20 rfl rfl (by kernel_rfl)
      clear hold hdep
      rw [Array.getD_eq_getD_getElem?] at d48
      rw [Array.getD_eq_getD_getElem?] at d49
      rw [if_pos (by rfl)]
      go_simp
      refine HK.out _ _ ?_ (Below.refl _ _)
      show _ = _
      rw [← S4.out]
      simp [sliced, add0, Addr.add]
    refine OwesAll.cons (k := 22) ?_ ?_
    · intro o ho a wx hS hold hdep K hK
      simp only [List.getElem?_toArray, List.getElem?_cons_succ, List.getElem?_cons_zero, Option.some.injEq] at ho
      subst ho
      have HK := Lib.hid hK
      clear hK
      have d44 : a.tmps.getD 44 undef = .slice a3 p cv := dep_at hdep 15 rfl rfl (by kernel_rfl)
      obtain ⟨a46, d46, r46⟩ : ∃ a', a.tmps.getD 46 undef = .slice a' 1 1 ∧ Rd wx a' [.string v] := dep_at hdep 17 rfl rfl (by kernel_rfl)
      have d50 : a.tmps.getD 50 undef = .slice a4 (lk - (p + 1)) (cv - (p + 1)) := dep_at hdep 21 rfl rfl (by kernel_rfl)
      clear hold hdep
      rw [Array.getD_eq_getD_getElem?] at d44
      rw [Array.getD_eq_getD_getElem?] at d46
      rw [Array.getD_eq_getD_getElem?] at d50
      rw [if_pos (by rfl)]
      go_simp
      exact HK.out _ _ ⟨_, a46, rfl, Rd.made _ _ _, r46.below (below_made _ _)⟩ (below_made _ _)
    refine OwesAll.cons (k := 23) ?_ ?_
    · intro o ho a wx hS hold hdep K hK
      simp only [List.getElem?_toArray, List.getElem?_cons_succ, List.getElem?_cons_zero, Option.some.injEq] at ho
      subst ho
      have HK := Lib.hid hK
      clear hK
      obtain ⟨a51, m51, d51, r51, s51⟩ : ∃ a' a5, a.tmps.getD 51 undef = .slice a' 3 3 ∧ Rd wx a' [.slice a3 p cv, .slice a5 1 1, .slice a4 (lk - (p + 1)) (cv - (p + 1))] ∧ Rd wx a5 [.string v] := dep_at hdep 22 rfl rfl (by kernel_rfl)
      clear hold hdep
      rw [Array.getD_eq_getD_getElem?] at d51
      rw [if_pos (by rfl)]
      have CA := CV.out wx a51 m51 (chain B2.out hS) r51 s51
      clear r51 s51
      go_simp
      go_wp2_with fail
      refine CA.mono ?_
      rintro e w9 ⟨⟨v9, rfl, h9⟩, b9⟩
      exact HK.out _ _ (out_rdFV h9 hS.size) b9
    refine OwesAll.cons (k := 24) ?_ ?_
    · intro o ho a wx hS hold hdep K hK
      simp only [List.getElem?_toArray, List.getElem?_cons_succ, List.getElem?_cons_zero, Option.some.injEq] at ho
      subst ho
      have HK := Lib.hid hK
      clear hK
      obtain ⟨a40, c40, d40, r40, l40, m40, n40⟩ : ∃ a' c', a.tmps.getD 40 undef = .slice a' (LK).length c' ∧ Rd wx a' (LK) ∧ (LK).length ≤ c' ∧ c' ≤ maxLen ∧ ∀ x, a' = some x → w2.heap.size ≤ x.block := dep_at hdep 11 rfl rfl (by kernel_rfl)
      obtain ⟨a52, c52, d52, r52, l52, m52, n52⟩ : ∃ a' c', a.tmps.getD 52 undef = .slice a' (LV).length c' ∧ Rd wx a' (LV) ∧ (LV).length ≤ c' ∧ c' ≤ maxLen ∧ ∀ x, a' = some x → w2.heap.size ≤ x.block := dep_at hdep 23 rfl rfl (by kernel_rfl)
      clear hold hdep
      rw [Array.getD_eq_getD_getElem?] at d40
      rw [Array.getD_eq_getD_getElem?] at d52
      rw [if_pos (by rfl)]
      go_simp
      exact HK.out _ _ ⟨_, _, _, _, rfl, r40, r52, l40, m40, l52, m52, n40, n52⟩ (Below.refl _ _)
    refine OwesAll.skip (f := 25) ?_
    exact OwesAll.nil
  case ends =>
    intro a wx hS hsz hdf hold hdone
    simp only [List.getElem?_toArray, List.getElem?_cons_succ, List.getElem?_cons_zero]
    intro K hK
    have HK := Lib.hid hK
    clear hK
    obtain ⟨xa, xb, xc, xd, d53, q1, q2, q3, q4, q5, q6, q7, q8⟩ : ∃ xa xb xc xd, a.tmps.getD 53 undef = .agg #[.bool true, .slice xa LK.length xc, .slice xb LV.length xd, .slice none 0 0] ∧ Rd wx xa LK ∧ Rd wx xb LV ∧ LK.length ≤ xc ∧ xc ≤ maxLen ∧ LV.length ≤ xd ∧ xd ≤ maxLen ∧ (∀ x, xa = some x → w2.heap.size ≤ x.block) ∧ ∀ x, xb = some x → w2.heap.size ≤ x.block := hdone 24 _ 53 rfl (by decide) rfl
    have d6 : a.tmps.getD 6 undef = .pointer (some ⟨w.heap.size + 1, 0, none⟩) := hold 6 (unset_of (by kernel_rfl))
    have hdf' : a.defers = [] := hdf
    clear hold hdone hsz hdf
    rw [Array.getD_eq_getD_getElem?] at d53 d6
    have XB := kept X.out hS
    rw [show (w.alloc (.cells #[.bool true, .slice ak lk ck, .slice av lk cv, .slice ac lc cc] 26)).heap.size = w.heap.size + 1 from by simp] at XB
    have y0 : wx.cell? ⟨w.heap.size + 1, 0, none⟩ = some (.bool false) := by rw [Go.Joins.cell_of_block XB]; rfl
    have y1 : wx.cell? ⟨w.heap.size + 1, 1, none⟩ = some (.slice none 0 0) := by rw [Go.Joins.cell_of_block XB]; rfl
    have y2 : wx.cell? ⟨w.heap.size + 1, 2, none⟩ = some (.slice none 0 0) := by rw [Go.Joins.cell_of_block XB]; rfl
    have y3 : wx.cell? ⟨w.heap.size + 1, 3, none⟩ = some (.slice none 0 0) := by rw [Go.Joins.cell_of_block XB]; rfl
    have f0 := Go.Joins.unfrozen_of_block XB 0
    have f1 := Go.Joins.unfrozen_of_block XB 1
    have f2 := Go.Joins.unfrozen_of_block XB 2
    have f3 := Go.Joins.unfrozen_of_block XB 3
    rw [if_pos (by rfl)]
    go_simp
    refine HK.out _ _ ?_
    have B9 : Below w.heap.size w ((((wx.setCell ⟨w.heap.size + 1, 0, none⟩ (.bool true)).setCell ⟨w.heap.size + 1, 1, none⟩ (.slice xa LK.length xc)).setCell ⟨w.heap.size + 1, 2, none⟩ (.slice xb LV.length xd)).setCell ⟨w.heap.size + 1, 3, none⟩ (.slice none 0 0)) :=
      ((((chain B2.out hS).setCell (by simp) _).setCell (by simp) _).setCell (by simp) _).setCell (by simp) _
    clear y0 y1 y2 y3 f0 f1 f2 f3 HK K
    go_wp2_with fail
    have lt1 : w.heap.size + 1 < w2.heap.size := by have := (Array.getElem?_eq_some_iff.1 X.out).1; simpa using this
    have FIN : Hid (NodOut w.heap.size LK LV (.returned (.agg #[.bool true, .slice xa LK.length xc, .slice xb LV.length xd, .slice none 0 0])) ((((wx.setCell ⟨w.heap.size + 1, 0, none⟩ (.bool true)).setCell ⟨w.heap.size + 1, 1, none⟩ (.slice xa LK.length xc)).setCell ⟨w.heap.size + 1, 2, none⟩ (.slice xb LV.length xd)).setCell ⟨w.heap.size + 1, 3, none⟩ (.slice none 0 0))) :=
      Lib.hid ⟨_, rfl, xa, xb, xc, xd, rfl, q1.set4 _ _ _ _ _ (fun x hx => Nat.lt_of_lt_of_le lt1 (q7 x hx)), q2.set4 _ _ _ _ _ (fun x hx => Nat.lt_of_lt_of_le lt1 (q8 x hx)), q3, q4, q5, q6, fun x hx => Nat.le_trans (Nat.le_of_lt lt0) (q7 x hx), fun x hx => Nat.le_trans (Nat.le_of_lt lt0) (q8 x hx)⟩
    have XR : (((((wx.setCell ⟨w.heap.size + 1, 0, none⟩ (.bool true)).setCell ⟨w.heap.size + 1, 1, none⟩ (.slice xa LK.length xc)).setCell ⟨w.heap.size + 1, 2, none⟩ (.slice xb LV.length xd)).setCell ⟨w.heap.size + 1, 3, none⟩ (.slice none 0 0))).heap[w.heap.size + 1]? = some (.cells #[.bool true, .slice xa LK.length xc, .slice xb LV.length xd, .slice none 0 0] 26) := by
      rw [heap_setCell_same _ _ 3 _ _ _ (heap_setCell_same _ _ 2 _ _ _ (heap_setCell_same _ _ 1 _ _ _ (heap_setCell_same _ _ 0 _ _ _ XB)))]
      rfl
    generalize ((((wx.setCell ⟨w.heap.size + 1, 0, none⟩ (.bool true)).setCell ⟨w.heap.size + 1, 1, none⟩ (.slice xa LK.length xc)).setCell ⟨w.heap.size + 1, 2, none⟩ (.slice xb LV.length xd)).setCell ⟨w.heap.size + 1, 3, none⟩ (.slice none 0 0)) = wz at *
    have z0 : wz.cell? ⟨w.heap.size + 1, 0, none⟩ = some (.bool true) := by rw [Go.Joins.cell_of_block XR]; rfl
    have z1 : wz.cell? ⟨w.heap.size + 1, 1, none⟩ = some (.slice xa LK.length xc) := by rw [Go.Joins.cell_of_block XR]; rfl
    have z2 : wz.cell? ⟨w.heap.size + 1, 2, none⟩ = some (.slice xb LV.length xd) := by rw [Go.Joins.cell_of_block XR]; rfl
    have z3 : wz.cell? ⟨w.heap.size + 1, 3, none⟩ = some (.slice none 0 0) := by rw [Go.Joins.cell_of_block XR]; rfl
    exact bodyPost_ret (v := .agg #[.bool true, .slice xa LK.length xc, .slice xb LV.length xd, .slice none 0 0]) (by simp [results, Try.results13, go_sem, d6, z0, z1, z2, z3]) hdf' ⟨FIN.out, B9⟩
end Go.Proofs.Ytkdcoipbdkmieaa
