/-
  Package node: Join: the walks, where both are whole and of one kind.
-/
import Derived.Test.YtkdcoipbdkmieaaNodeSp
import Derived.Test.YtkdcoipbdkmieaaNodeB
import Derived.Test.YtkdcoipbdkmieaaNodeSl
import Derived.Deep.DeepCutAuto
namespace Go.Proofs.Ytkdcoipbdkmieaa
open Go.RowKit
set_option linter.unusedVariables false
set_option linter.unusedSimpArgs false
def scalar : Value → Bool
  | .int _ _ => true
  | .string _ => true
  | _ => false
/-- A row of numbers or texts does not lie in a box that holds none. -/
theorem Rd.apart {w : World} {a : Option Addr} {L : List Value} (h : Rd w a L) (hL : ∀ u ∈ L, scalar u = true) {r : Nat} {cs : Array Value} {T : TypeId} (hb : w.heap[r]? = some (.cells cs T)) (hc : ∀ (k : Nat) v, cs[k]? = some v → scalar v = false) :
    L = [] ∨ ∀ x, a = some x → x.block ≠ r := by
  cases L with
  | nil => exact .inl rfl
  | cons u L =>
    refine .inr fun x hx hr => ?_
    obtain ⟨b, off, h1, h2, h3⟩ := h.at 0 (by simp)
    rw [h1] at hx
    cases hx
    have hr' : b = r := hr
    subst hr'
    rw [Go.Joins.cell_of_block hb] at h3
    have h4 := hL u (by simp)
    have h5 := hc _ _ h3
    simp only [List.getElem_cons_zero] at h5
    rw [h4] at h5
    cases h5
theorem Rd.set4B {w : World} {a : Option Addr} {L : List Value} (h : Rd w a L) (hL : ∀ u ∈ L, scalar u = true) {r : Nat} {cs : Array Value} {T : TypeId} (hb : w.heap[r]? = some (.cells cs T)) (hc : ∀ (k : Nat) v, cs[k]? = some v → scalar v = false) (v0 v1 v2 v3 : Value) :
    Rd ((((w.setCell ⟨r, 0, none⟩ v0).setCell ⟨r, 1, none⟩ v1).setCell ⟨r, 2, none⟩ v2).setCell ⟨r, 3, none⟩ v3) a L := by
  rcases h.apart hL hb hc with h0 | h0
  · exact .inl h0
  · exact h.set4N r _ _ _ _ h0
theorem Rd.set1B {w : World} {a : Option Addr} {L : List Value} (h : Rd w a L) (hL : ∀ u ∈ L, scalar u = true) {r : Nat} {cs : Array Value} {T : TypeId} (hb : w.heap[r]? = some (.cells cs T)) (hc : ∀ (k : Nat) v, cs[k]? = some v → scalar v = false) (i : Nat) (v : Value) :
    Rd (w.setCell ⟨r, i, none⟩ v) a L := by
  rcases h.apart hL hb hc with h0 | h0
  · exact .inl h0
  · exact h.setN _ _ h0
theorem node_not (b : Bool) (v1 v2 v3 : Option Addr × Nat × Nat) : ∀ (k : Nat) v, (#[.bool b, .slice v1.1 v1.2.1 v1.2.2, .slice v2.1 v2.2.1 v2.2.2, .slice v3.1 v3.2.1 v3.2.2] : Array Value)[k]? = some v → scalar v = false := by
  intro k v h
  match k with
  | 0 => cases h; rfl
  | 1 => cases h; rfl
  | 2 => cases h; rfl
  | 3 => cases h; rfl
  | k + 4 => simp at h
theorem zero_not : ∀ (k : Nat) v, (#[.bool false, .slice none 0 0, .slice none 0 0, .slice none 0 0] : Array Value)[k]? = some v → scalar v = false := node_not false (none, 0, 0) (none, 0, 0) (none, 0, 0)
/-- A new box of a node's, all zero. -/
def boxZ (lo : Nat) : SP := ⟨fun v w => ∃ r, v = .pointer (some ⟨r, 0, none⟩) ∧ lo ≤ r ∧ w.heap[r]? = some (.cells #[.bool false, .slice none 0 0, .slice none 0 0, .slice none 0 0] 26),
  fun _ _ _ ⟨r, h1, h2, h3⟩ hb => ⟨r, h1, h2, kept h3 hb⟩⟩
def nodJ (lf : Bool) (X1 X2 X3 : List Value) : SP := ⟨fun v w => ∃ xa xb xc ja jb jc, v = .agg #[.bool lf, .slice xa X1.length ja, .slice xb X2.length jb, .slice xc X3.length jc] ∧ Rd w xa X1 ∧ Rd w xb X2 ∧ Rd w xc X3 ∧ X1.length ≤ ja ∧ ja ≤ maxLen ∧ X2.length ≤ jb ∧ jb ≤ maxLen ∧ X3.length ≤ jc ∧ jc ≤ maxLen,
  fun _ _ _ ⟨xa, xb, xc, ja, jb, jc, h, q1, q2, q3, q⟩ hb => ⟨xa, xb, xc, ja, jb, jc, h, q1.below hb, q2.below hb, q3.below hb, q⟩⟩
def JOut (lf : Bool) (X1 X2 X3 : List Value) (fits : Bool) (e : Ending) (w' : World) : Prop :=
  if fits then ∃ xa xb xc ja jb jc, e = .returned (.tuple #[.agg #[.bool lf, .slice xa X1.length ja, .slice xb X2.length jb, .slice xc X3.length jc], .bool true]) ∧ Rd w' xa X1 ∧ Rd w' xb X2 ∧ Rd w' xc X3 ∧ X1.length ≤ ja ∧ ja ≤ maxLen ∧ X2.length ≤ jb ∧ jb ≤ maxLen ∧ X3.length ≤ jc ∧ jc ≤ maxLen
  else e = .returned (.tuple #[zeroV, .bool false])
set_option maxHeartbeats 6400000 in
set_option maxRecDepth 20000 in
theorem join_leaf (ak av ac bk bv bc : Option Addr) (ck cv cc dk dv dc lk lv lc mk mv mc z : Nat) (mid : Int) (X1 X2 X3 X4 : List Value) (w : World)
    (WA : Hid (∀ w, Calls Try.prog 34 #[.agg #[.bool true, .slice ak lk ck, .slice av lv cv, .slice ac lc cc]] w fun e w' => e = .returned (.bool true) ∧ Below w.heap.size w w'))
    (WB : Hid (∀ w, Calls Try.prog 34 #[.agg #[.bool true, .slice bk mk dk, .slice bv mv dv, .slice bc mc dc]] w fun e w' => e = .returned (.bool true) ∧ Below w.heap.size w w'))
    (C1 : Hid (∀ wx a, Below w.heap.size w wx → Rd wx a [.slice ak lk ck, .slice bk mk dk] → Calls Try.prog 35 #[.slice a 2 2] wx fun e w' => RowOut wx.heap.size 27 X1 e w' ∧ Below wx.heap.size wx w'))
    (C2 : Hid (∀ wx a, Below w.heap.size w wx → Rd wx a [.slice av lv cv, .slice bv mv dv] → Calls Try.prog 36 #[.slice a 2 2] wx fun e w' => RowOut wx.heap.size 9 X2 e w' ∧ Below wx.heap.size wx w'))
    (C3 : Hid (∀ wx a, Below w.heap.size w wx → Rd wx a [.slice ac lc cc, .slice bc mc dc] → Calls Try.prog 37 #[.slice a 2 2] wx fun e w' => RowOut wx.heap.size 3 X3 e w' ∧ Below wx.heap.size wx w'))
    (C4 : Hid (∀ wx a m, Below w.heap.size w wx → Rd wx a [.slice ak lk ck, .slice m 1 1, .slice bk mk dk] → Rd wx m [.int .u64 mid] → Calls Try.prog 35 #[.slice a 3 3] wx fun e w' => RowOut wx.heap.size 27 X4 e w' ∧ Below wx.heap.size wx w'))
    (SC : Hid ((∀ u ∈ X1, scalar u = true) ∧ (∀ u ∈ X2, scalar u = true) ∧ (∀ u ∈ X3, scalar u = true) ∧ ∀ u ∈ X4, scalar u = true))
    (SZ : Hid (∀ wx xa xb xc ca cb cd, Rd wx xa X1 → Rd wx xb X2 → Rd wx xc X3 → X1.length ≤ ca → ca ≤ maxLen → X2.length ≤ cb → cb ≤ maxLen → X3.length ≤ cd → cd ≤ maxLen → Calls Try.prog 33 #[.agg #[.bool true, .slice xa X1.length ca, .slice xb X2.length cb, .slice xc X3.length cd]] wx fun e w' => e = .returned (.int .i64 (z : Int)) ∧ Below wx.heap.size wx w')) :
    Calls Try.prog 26 #[.agg #[.bool true, .slice ak lk ck, .slice av lv cv, .slice ac lc cc], .int .u64 mid, .agg #[.bool true, .slice bk mk dk, .slice bv mv dv, .slice bc mc dc]] w fun e w' => JOut true X1 X2 X3 (decide (z ≤ 240)) e w' ∧ Below w.heap.size w w' := by
  obtain ⟨W, hW⟩ : ∃ W, ((w.alloc (.cells #[.bool true, .slice ak lk ck, .slice av lv cv, .slice ac lc cc] 26)).alloc (.cells #[.bool true, .slice bk mk dk, .slice bv mv dv, .slice bc mc dc] 26)).alloc (.cells #[.bool false, .slice none 0 0, .slice none 0 0, .slice none 0 0] 26) = W := ⟨_, rfl⟩
  have hsz : (w.alloc (.cells #[.bool true, .slice ak lk ck, .slice av lv cv, .slice ac lc cc] 26)).heap.size = w.heap.size + 1 := by simp
  have hsz2 : ((w.alloc (.cells #[.bool true, .slice ak lk ck, .slice av lv cv, .slice ac lc cc] 26)).alloc (.cells #[.bool true, .slice bk mk dk, .slice bv mv dv, .slice bc mc dc] 26)).heap.size = w.heap.size + 2 := by simp
  have bW : Below w.heap.size w W := by rw [← hW]; exact (((Below.refl _ _).alloc (Nat.le_refl _) _).alloc (by simp) _).alloc (by simp; omega) _
  have XA : Hid (W.heap[w.heap.size]? = some (.cells #[.bool true, .slice ak lk ck, .slice av lv cv, .slice ac lc cc] 26)) := Lib.hid (by rw [← hW]; exact (heap_alloc_old _ _ (by simp; omega)).trans ((heap_alloc_old _ _ (by simp)).trans (heap_alloc_new w _)))
  have XB : Hid (W.heap[w.heap.size + 1]? = some (.cells #[.bool true, .slice bk mk dk, .slice bv mv dv, .slice bc mc dc] 26)) := Lib.hid (by rw [← hW, ← hsz]; exact (heap_alloc_old _ _ (by simp)).trans (heap_alloc_new _ _))
  have XZ : Hid (W.heap[w.heap.size + 2]? = some (.cells #[.bool false, .slice none 0 0, .slice none 0 0, .slice none 0 0] 26)) := Lib.hid (by rw [← hW, ← hsz2]; exact heap_alloc_new _ _)
  have BW := Lib.hid bW
  have HW := Lib.hid hW
  clear bW hW hsz hsz2
  go_enter Try.func26, Try.ntmps26
  go_wp2_with fail
  refine (WA.out _).mono ?_
  rw [HW.out]
  rintro e v1 ⟨rfl, b1⟩
  have XA1 := Lib.hid (kept XA.out b1)
  have XB1 := Lib.hid (kept XB.out b1)
  have XZ1 := Lib.hid (kept XZ.out b1)
  have B1 := Lib.hid (chain BW.out b1)
  clear b1 XA XB XZ BW HW
  have y0 : v1.cell? ⟨w.heap.size + 1, 0, none⟩ = some (.bool true) := by rw [Go.Joins.cell_of_block XB1.out]; rfl
  have y1 : v1.cell? ⟨w.heap.size + 1, 1, none⟩ = some (.slice bk mk dk) := by rw [Go.Joins.cell_of_block XB1.out]; rfl
  have y2 : v1.cell? ⟨w.heap.size + 1, 2, none⟩ = some (.slice bv mv dv) := by rw [Go.Joins.cell_of_block XB1.out]; rfl
  have y3 : v1.cell? ⟨w.heap.size + 1, 3, none⟩ = some (.slice bc mc dc) := by rw [Go.Joins.cell_of_block XB1.out]; rfl
  go_wp2_with fail
  refine (WB.out _).mono ?_
  rintro e w2 ⟨rfl, b2⟩
  have XA2 := Lib.hid (kept XA1.out b2)
  have XB2 := Lib.hid (kept XB1.out b2)
  have XZ2 := Lib.hid (kept XZ1.out b2)
  have B2 := Lib.hid (chain B1.out b2)
  clear b2 XA1 XB1 XZ1 B1 y0 y1 y2 y3 WA WB
  have lt0 : w.heap.size < w2.heap.size := (Array.getElem?_eq_some_iff.1 XA2.out).1
  have lt1 : w.heap.size + 1 < w2.heap.size := (Array.getElem?_eq_some_iff.1 XB2.out).1
  have lt2 : w.heap.size + 2 < w2.heap.size := (Array.getElem?_eq_some_iff.1 XZ2.out).1
  have ca0 : w2.cell? ⟨w.heap.size, 0, none⟩ = some (.bool true) := by rw [Go.Joins.cell_of_block XA2.out]; rfl
  have ca1 : w2.cell? ⟨w.heap.size, 1, none⟩ = some (.slice ak lk ck) := by rw [Go.Joins.cell_of_block XA2.out]; rfl
  have ca2 : w2.cell? ⟨w.heap.size, 2, none⟩ = some (.slice av lv cv) := by rw [Go.Joins.cell_of_block XA2.out]; rfl
  have ca3 : w2.cell? ⟨w.heap.size, 3, none⟩ = some (.slice ac lc cc) := by rw [Go.Joins.cell_of_block XA2.out]; rfl
  have cb0 : w2.cell? ⟨w.heap.size + 1, 0, none⟩ = some (.bool true) := by rw [Go.Joins.cell_of_block XB2.out]; rfl
  have cb1 : w2.cell? ⟨w.heap.size + 1, 1, none⟩ = some (.slice bk mk dk) := by rw [Go.Joins.cell_of_block XB2.out]; rfl
  have cb2 : w2.cell? ⟨w.heap.size + 1, 2, none⟩ = some (.slice bv mv dv) := by rw [Go.Joins.cell_of_block XB2.out]; rfl
  have cb3 : w2.cell? ⟨w.heap.size + 1, 3, none⟩ = some (.slice bc mc dc) := by rw [Go.Joins.cell_of_block XB2.out]; rfl
  go_wp2_with fail
  refine region_kit 22 63 [eqV (.pointer (some ⟨w.heap.size, 0, none⟩)), eqV (.bool true), eqV (.pointer (some ⟨w.heap.size, 1, none⟩)), eqV (.slice ak lk ck), eqV (.pointer (some ⟨w.heap.size + 1, 1, none⟩)), eqV (.slice bk mk dk), lstV [.slice ak lk ck, .slice bk mk dk], rdFV w2.heap.size X1, eqV (.pointer (some ⟨w.heap.size, 2, none⟩)), eqV (.slice av lv cv), eqV (.pointer (some ⟨w.heap.size + 1, 2, none⟩)), eqV (.slice bv mv dv), lstV [.slice av lv cv, .slice bv mv dv], rdFV w2.heap.size X2, eqV (.pointer (some ⟨w.heap.size, 3, none⟩)), eqV (.slice ac lc cc), eqV (.pointer (some ⟨w.heap.size + 1, 3, none⟩)), eqV (.slice bc mc dc), lstV [.slice ac lc cc, .slice bc mc dc], rdFV w2.heap.size X3, nodJ true X1 X2 X3, boxZ w2.heap.size, anyV] (by kernel_rfl) (by kernel_rfl) (by rfl) ?owes ?ends
  case owes =>
    refine OwesAll.cons (k := 0) ?_ ?_
    · intro o ho a wx hS hold hdep K hK
      simp only [List.getElem?_toArray, List.getElem?_cons_succ, List.getElem?_cons_zero, Option.some.injEq] at ho
      subst ho
      have HK := Lib.hid hK
      clear hK
      have d3 : a.tmps.getD 3 undef = .pointer (some ⟨w.heap.size, 0, none⟩) := hold 3 (unset_of (by kernel_rfl))
      clear hold hdep
      rw [Array.getD_eq_getD_getElem?] at d3
      rw [if_pos (by rfl)]
      go_simp
      exact HK.out _ _ rfl (Below.refl _ _)
    refine OwesAll.cons (k := 1) ?_ ?_
    · intro o ho a wx hS hold hdep K hK
      simp only [List.getElem?_toArray, List.getElem?_cons_succ, List.getElem?_cons_zero, Option.some.injEq] at ho
      subst ho
      have HK := Lib.hid hK
      clear hK
      have d25 : a.tmps.getD 25 undef = .pointer (some ⟨w.heap.size, 0, none⟩) := dep_at hdep 0 rfl rfl (by kernel_rfl)
      clear hold hdep
      rw [Array.getD_eq_getD_getElem?] at d25
      rw [if_pos (by rfl)]
      have c0 : wx.cell? ⟨w.heap.size, 0, none⟩ = some (.bool true) := (hS.cell (p := ⟨w.heap.size, 0, none⟩) lt0).trans ca0
      go_simp
      exact HK.out _ _ rfl (Below.refl _ _)
    refine OwesAll.cons (k := 2) ?_ ?_
    · intro o ho a wx hS hold hdep K hK
      simp only [List.getElem?_toArray, List.getElem?_cons_succ, List.getElem?_cons_zero, Option.some.injEq] at ho
      subst ho
      have HK := Lib.hid hK
      clear hK
      have d3 : a.tmps.getD 3 undef = .pointer (some ⟨w.heap.size, 0, none⟩) := hold 3 (unset_of (by kernel_rfl))
      clear hold hdep
      rw [Array.getD_eq_getD_getElem?] at d3
      rw [if_pos (by rfl)]
      go_simp
      exact HK.out _ _ rfl (Below.refl _ _)
    refine OwesAll.cons (k := 3) ?_ ?_
    · intro o ho a wx hS hold hdep K hK
      simp only [List.getElem?_toArray, List.getElem?_cons_succ, List.getElem?_cons_zero, Option.some.injEq] at ho
      subst ho
      have HK := Lib.hid hK
      clear hK
      have d27 : a.tmps.getD 27 undef = .pointer (some ⟨w.heap.size, 1, none⟩) := dep_at hdep 2 rfl rfl (by kernel_rfl)
      clear hold hdep
      rw [Array.getD_eq_getD_getElem?] at d27
      rw [if_pos (by rfl)]
      have c0 : wx.cell? ⟨w.heap.size, 1, none⟩ = some (.slice ak lk ck) := (hS.cell (p := ⟨w.heap.size, 1, none⟩) lt0).trans ca1
      go_simp
      exact HK.out _ _ rfl (Below.refl _ _)
    refine OwesAll.cons (k := 4) ?_ ?_
    · intro o ho a wx hS hold hdep K hK
      simp only [List.getElem?_toArray, List.getElem?_cons_succ, List.getElem?_cons_zero, Option.some.injEq] at ho
      subst ho
      have HK := Lib.hid hK
      clear hK
      have d5 : a.tmps.getD 5 undef = .pointer (some ⟨w.heap.size + 1, 0, none⟩) := hold 5 (unset_of (by kernel_rfl))
      clear hold hdep
      rw [Array.getD_eq_getD_getElem?] at d5
      rw [if_pos (by rfl)]
      go_simp
      exact HK.out _ _ rfl (Below.refl _ _)
    refine OwesAll.cons (k := 5) ?_ ?_
    · intro o ho a wx hS hold hdep K hK
      simp only [List.getElem?_toArray, List.getElem?_cons_succ, List.getElem?_cons_zero, Option.some.injEq] at ho
      subst ho
      have HK := Lib.hid hK
      clear hK
      have d29 : a.tmps.getD 29 undef = .pointer (some ⟨w.heap.size + 1, 1, none⟩) := dep_at hdep 4 rfl rfl (by kernel_rfl)
      clear hold hdep
      rw [Array.getD_eq_getD_getElem?] at d29
      rw [if_pos (by rfl)]
      have c0 : wx.cell? ⟨w.heap.size + 1, 1, none⟩ = some (.slice bk mk dk) := (hS.cell (p := ⟨w.heap.size + 1, 1, none⟩) lt1).trans cb1
      go_simp
      exact HK.out _ _ rfl (Below.refl _ _)
    refine OwesAll.cons (k := 6) ?_ ?_
    · intro o ho a wx hS hold hdep K hK
      simp only [List.getElem?_toArray, List.getElem?_cons_succ, List.getElem?_cons_zero, Option.some.injEq] at ho
      subst ho
      have HK := Lib.hid hK
      clear hK
      have d28 : a.tmps.getD 28 undef = .slice ak lk ck := dep_at hdep 3 rfl rfl (by kernel_rfl)
      have d30 : a.tmps.getD 30 undef = .slice bk mk dk := dep_at hdep 5 rfl rfl (by kernel_rfl)
      clear hold hdep
      rw [Array.getD_eq_getD_getElem?] at d28
      rw [Array.getD_eq_getD_getElem?] at d30
      rw [if_pos (by rfl)]
      go_simp
      exact HK.out _ _ ⟨_, rfl, Rd.made _ _ _⟩ (below_made _ _)
    refine OwesAll.cons (k := 7) ?_ ?_
    · intro o ho a wx hS hold hdep K hK
      simp only [List.getElem?_toArray, List.getElem?_cons_succ, List.getElem?_cons_zero, Option.some.injEq] at ho
      subst ho
      have HK := Lib.hid hK
      clear hK
      obtain ⟨a31, d31, r31⟩ : ∃ a', a.tmps.getD 31 undef = .slice a' 2 2 ∧ Rd wx a' [.slice ak lk ck, .slice bk mk dk] := dep_at hdep 6 rfl rfl (by kernel_rfl)
      clear hold hdep
      rw [Array.getD_eq_getD_getElem?] at d31
      rw [if_pos (by rfl)]
      have CA := C1.out wx a31 (chain B2.out hS) r31
      clear r31
      go_simp
      go_wp2_with fail
      refine CA.mono ?_
      rintro e w9 ⟨⟨v9, rfl, h9⟩, b9⟩
      exact HK.out _ _ (out_rdFV h9 hS.size) b9
    refine OwesAll.cons (k := 8) ?_ ?_
    · intro o ho a wx hS hold hdep K hK
      simp only [List.getElem?_toArray, List.getElem?_cons_succ, List.getElem?_cons_zero, Option.some.injEq] at ho
      subst ho
      have HK := Lib.hid hK
      clear hK
      have d3 : a.tmps.getD 3 undef = .pointer (some ⟨w.heap.size, 0, none⟩) := hold 3 (unset_of (by kernel_rfl))
      clear hold hdep
      rw [Array.getD_eq_getD_getElem?] at d3
      rw [if_pos (by rfl)]
      go_simp
      exact HK.out _ _ rfl (Below.refl _ _)
    refine OwesAll.cons (k := 9) ?_ ?_
    · intro o ho a wx hS hold hdep K hK
      simp only [List.getElem?_toArray, List.getElem?_cons_succ, List.getElem?_cons_zero, Option.some.injEq] at ho
      subst ho
      have HK := Lib.hid hK
      clear hK
      have d33 : a.tmps.getD 33 undef = .pointer (some ⟨w.heap.size, 2, none⟩) := dep_at hdep 8 rfl rfl (by kernel_rfl)
      clear hold hdep
      rw [Array.getD_eq_getD_getElem?] at d33
      rw [if_pos (by rfl)]
      have c0 : wx.cell? ⟨w.heap.size, 2, none⟩ = some (.slice av lv cv) := (hS.cell (p := ⟨w.heap.size, 2, none⟩) lt0).trans ca2
      go_simp
      exact HK.out _ _ rfl (Below.refl _ _)
    refine OwesAll.cons (k := 10) ?_ ?_
    · intro o ho a wx hS hold hdep K hK
      simp only [List.getElem?_toArray, List.getElem?_cons_succ, List.getElem?_cons_zero, Option.some.injEq] at ho
      subst ho
      have HK := Lib.hid hK
      clear hK
      have d5 : a.tmps.getD 5 undef = .pointer (some ⟨w.heap.size + 1, 0, none⟩) := hold 5 (unset_of (by kernel_rfl))
      clear hold hdep
      rw [Array.getD_eq_getD_getElem?] at d5
      rw [if_pos (by rfl)]
      go_simp
      exact HK.out _ _ rfl (Below.refl _ _)
    refine OwesAll.cons (k := 11) ?_ ?_
    · intro o ho a wx hS hold hdep K hK
      simp only [List.getElem?_toArray, List.getElem?_cons_succ, List.getElem?_cons_zero, Option.some.injEq] at ho
      subst ho
      have HK := Lib.hid hK
      clear hK
      have d35 : a.tmps.getD 35 undef = .pointer (some ⟨w.heap.size + 1, 2, none⟩) := dep_at hdep 10 rfl rfl (by kernel_rfl)
      clear hold hdep
      rw [Array.getD_eq_getD_getElem?] at d35
      rw [if_pos (by rfl)]
      have c0 : wx.cell? ⟨w.heap.size + 1, 2, none⟩ = some (.slice bv mv dv) := (hS.cell (p := ⟨w.heap.size + 1, 2, none⟩) lt1).trans cb2
      go_simp
      exact HK.out _ _ rfl (Below.refl _ _)
    refine OwesAll.cons (k := 12) ?_ ?_
    · intro o ho a wx hS hold hdep K hK
      simp only [List.getElem?_toArray, List.getElem?_cons_succ, List.getElem?_cons_zero, Option.some.injEq] at ho
      subst ho
      have HK := Lib.hid hK
      clear hK
      have d34 : a.tmps.getD 34 undef = .slice av lv cv := dep_at hdep 9 rfl rfl (by kernel_rfl)
      have d36 : a.tmps.getD 36 undef = .slice bv mv dv := dep_at hdep 11 rfl rfl (by kernel_rfl)
      clear hold hdep
      rw [Array.getD_eq_getD_getElem?] at d34
      rw [Array.getD_eq_getD_getElem?] at d36
      rw [if_pos (by rfl)]
      go_simp
      exact HK.out _ _ ⟨_, rfl, Rd.made _ _ _⟩ (below_made _ _)
    refine OwesAll.cons (k := 13) ?_ ?_
    · intro o ho a wx hS hold hdep K hK
      simp only [List.getElem?_toArray, List.getElem?_cons_succ, List.getElem?_cons_zero, Option.some.injEq] at ho
      subst ho
      have HK := Lib.hid hK
      clear hK
      obtain ⟨a37, d37, r37⟩ : ∃ a', a.tmps.getD 37 undef = .slice a' 2 2 ∧ Rd wx a' [.slice av lv cv, .slice bv mv dv] := dep_at hdep 12 rfl rfl (by kernel_rfl)
      clear hold hdep
      rw [Array.getD_eq_getD_getElem?] at d37
      rw [if_pos (by rfl)]
      have CA := C2.out wx a37 (chain B2.out hS) r37
      clear r37
      go_simp
      go_wp2_with fail
      refine CA.mono ?_
      rintro e w9 ⟨⟨v9, rfl, h9⟩, b9⟩
      exact HK.out _ _ (out_rdFV h9 hS.size) b9
    refine OwesAll.cons (k := 14) ?_ ?_
    · intro o ho a wx hS hold hdep K hK
      simp only [List.getElem?_toArray, List.getElem?_cons_succ, List.getElem?_cons_zero, Option.some.injEq] at ho
      subst ho
      have HK := Lib.hid hK
      clear hK
      have d3 : a.tmps.getD 3 undef = .pointer (some ⟨w.heap.size, 0, none⟩) := hold 3 (unset_of (by kernel_rfl))
      clear hold hdep
      rw [Array.getD_eq_getD_getElem?] at d3
      rw [if_pos (by rfl)]
      go_simp
      exact HK.out _ _ rfl (Below.refl _ _)
    refine OwesAll.cons (k := 15) ?_ ?_
    · intro o ho a wx hS hold hdep K hK
      simp only [List.getElem?_toArray, List.getElem?_cons_succ, List.getElem?_cons_zero, Option.some.injEq] at ho
      subst ho
      have HK := Lib.hid hK
      clear hK
      have d39 : a.tmps.getD 39 undef = .pointer (some ⟨w.heap.size, 3, none⟩) := dep_at hdep 14 rfl rfl (by kernel_rfl)
      clear hold hdep
      rw [Array.getD_eq_getD_getElem?] at d39
      rw [if_pos (by rfl)]
      have c0 : wx.cell? ⟨w.heap.size, 3, none⟩ = some (.slice ac lc cc) := (hS.cell (p := ⟨w.heap.size, 3, none⟩) lt0).trans ca3
      go_simp
      exact HK.out _ _ rfl (Below.refl _ _)
    refine OwesAll.cons (k := 16) ?_ ?_
    · intro o ho a wx hS hold hdep K hK
      simp only [List.getElem?_toArray, List.getElem?_cons_succ, List.getElem?_cons_zero, Option.some.injEq] at ho
      subst ho
      have HK := Lib.hid hK
      clear hK
      have d5 : a.tmps.getD 5 undef = .pointer (some ⟨w.heap.size + 1, 0, none⟩) := hold 5 (unset_of (by kernel_rfl))
      clear hold hdep
      rw [Array.getD_eq_getD_getElem?] at d5
      rw [if_pos (by rfl)]
      go_simp
      exact HK.out _ _ rfl (Below.refl _ _)
    refine OwesAll.cons (k := 17) ?_ ?_
    · intro o ho a wx hS hold hdep K hK
      simp only [List.getElem?_toArray, List.getElem?_cons_succ, List.getElem?_cons_zero, Option.some.injEq] at ho
      subst ho
      have HK := Lib.hid hK
      clear hK
      have d41 : a.tmps.getD 41 undef = .pointer (some ⟨w.heap.size + 1, 3, none⟩) := dep_at hdep 16 rfl rfl (by kernel_rfl)
      clear hold hdep
      rw [Array.getD_eq_getD_getElem?] at d41
      rw [if_pos (by rfl)]
      have c0 : wx.cell? ⟨w.heap.size + 1, 3, none⟩ = some (.slice bc mc dc) := (hS.cell (p := ⟨w.heap.size + 1, 3, none⟩) lt1).trans cb3
      go_simp
      exact HK.out _ _ rfl (Below.refl _ _)
    refine OwesAll.cons (k := 18) ?_ ?_
    · intro o ho a wx hS hold hdep K hK
      simp only [List.getElem?_toArray, List.getElem?_cons_succ, List.getElem?_cons_zero, Option.some.injEq] at ho
      subst ho
      have HK := Lib.hid hK
      clear hK
      have d40 : a.tmps.getD 40 undef = .slice ac lc cc := dep_at hdep 15 rfl rfl (by kernel_rfl)
      have d42 : a.tmps.getD 42 undef = .slice bc mc dc := dep_at hdep 17 rfl rfl (by kernel_rfl)
      clear hold hdep
      rw [Array.getD_eq_getD_getElem?] at d40
      rw [Array.getD_eq_getD_getElem?] at d42
      rw [if_pos (by rfl)]
      go_simp
      exact HK.out _ _ ⟨_, rfl, Rd.made _ _ _⟩ (below_made _ _)
    refine OwesAll.cons (k := 19) ?_ ?_
    · intro o ho a wx hS hold hdep K hK
      simp only [List.getElem?_toArray, List.getElem?_cons_succ, List.getElem?_cons_zero, Option.some.injEq] at ho
      subst ho
      have HK := Lib.hid hK
      clear hK
      obtain ⟨a43, d43, r43⟩ : ∃ a', a.tmps.getD 43 undef = .slice a' 2 2 ∧ Rd wx a' [.slice ac lc cc, .slice bc mc dc] := dep_at hdep 18 rfl rfl (by kernel_rfl)
      clear hold hdep
      rw [Array.getD_eq_getD_getElem?] at d43
      rw [if_pos (by rfl)]
      have CA := C3.out wx a43 (chain B2.out hS) r43
      clear r43
      go_simp
      go_wp2_with fail
      refine CA.mono ?_
      rintro e w9 ⟨⟨v9, rfl, h9⟩, b9⟩
      exact HK.out _ _ (out_rdFV h9 hS.size) b9
    refine OwesAll.cons (k := 20) ?_ ?_
    · intro o ho a wx hS hold hdep K hK
      simp only [List.getElem?_toArray, List.getElem?_cons_succ, List.getElem?_cons_zero, Option.some.injEq] at ho
      subst ho
      have HK := Lib.hid hK
      clear hK
      have d26 : a.tmps.getD 26 undef = .bool true := dep_at hdep 1 rfl rfl (by kernel_rfl)
      obtain ⟨a32, c32, d32, r32, l32, m32, n32⟩ : ∃ a' c', a.tmps.getD 32 undef = .slice a' X1.length c' ∧ Rd wx a' X1 ∧ X1.length ≤ c' ∧ c' ≤ maxLen ∧ ∀ x, a' = some x → w2.heap.size ≤ x.block := dep_at hdep 7 rfl rfl (by kernel_rfl)
      obtain ⟨a38, c38, d38, r38, l38, m38, n38⟩ : ∃ a' c', a.tmps.getD 38 undef = .slice a' X2.length c' ∧ Rd wx a' X2 ∧ X2.length ≤ c' ∧ c' ≤ maxLen ∧ ∀ x, a' = some x → w2.heap.size ≤ x.block := dep_at hdep 13 rfl rfl (by kernel_rfl)
      obtain ⟨a44, c44, d44, r44, l44, m44, n44⟩ : ∃ a' c', a.tmps.getD 44 undef = .slice a' X3.length c' ∧ Rd wx a' X3 ∧ X3.length ≤ c' ∧ c' ≤ maxLen ∧ ∀ x, a' = some x → w2.heap.size ≤ x.block := dep_at hdep 19 rfl rfl (by kernel_rfl)
      clear hold hdep
      rw [Array.getD_eq_getD_getElem?] at d26
      rw [Array.getD_eq_getD_getElem?] at d32
      rw [Array.getD_eq_getD_getElem?] at d38
      rw [Array.getD_eq_getD_getElem?] at d44
      rw [if_pos (by rfl)]
      go_simp
      exact HK.out _ _ ⟨_, _, _, _, _, _, rfl, r32, r38, r44, l32, m32, l38, m38, l44, m44⟩ (Below.refl _ _)
    refine OwesAll.cons (k := 21) ?_ ?_
    · intro o ho a wx hS hold hdep K hK
      simp only [List.getElem?_toArray, List.getElem?_cons_succ, List.getElem?_cons_zero, Option.some.injEq] at ho
      subst ho
      have HK := Lib.hid hK
      clear hK
      clear hold hdep
      rw [if_pos (by rfl)]
      go_simp
      exact HK.out _ _ ⟨_, rfl, hS.size, heap_alloc_new _ _⟩ (below_made _ _)
    refine OwesAll.skip (f := 22) ?_
    exact OwesAll.nil
  case ends =>
    intro a wx hS hsz hdf hold hdone
    simp only [List.getElem?_toArray, List.getElem?_cons_succ, List.getElem?_cons_zero, List.getElem?_nil]
    have hsz' : a.tmps.size = 63 := hsz
    have hdf' : a.defers = [] := hdf
    have ha := act_lit hsz' hdf'
    have e0 := hold 0 (unset_of (by kernel_rfl))
    have e1 := hold 1 (unset_of (by kernel_rfl))
    have e2 := hold 2 (unset_of (by kernel_rfl))
    have e3 := hold 3 (unset_of (by kernel_rfl))
    have e4 := hold 4 (unset_of (by kernel_rfl))
    have e5 := hold 5 (unset_of (by kernel_rfl))
    have e6 := hold 6 (unset_of (by kernel_rfl))
    have e7 := hold 7 (unset_of (by kernel_rfl))
    have e9 := hold 9 (unset_of (by kernel_rfl))
    have e10 := hold 10 (unset_of (by kernel_rfl))
    have e11 := hold 11 (unset_of (by kernel_rfl))
    have e12 := hold 12 (unset_of (by kernel_rfl))
    have e13 := hold 13 (unset_of (by kernel_rfl))
    have e14 := hold 14 (unset_of (by kernel_rfl))
    have e15 := hold 15 (unset_of (by kernel_rfl))
    have e16 := hold 16 (unset_of (by kernel_rfl))
    have e17 := hold 17 (unset_of (by kernel_rfl))
    have e18 := hold 18 (unset_of (by kernel_rfl))
    have e19 := hold 19 (unset_of (by kernel_rfl))
    have e20 := hold 20 (unset_of (by kernel_rfl))
    have e21 := hold 21 (unset_of (by kernel_rfl))
    have e22 := hold 22 (unset_of (by kernel_rfl))
    have e23 := hold 23 (unset_of (by kernel_rfl))
    have e24 := hold 24 (unset_of (by kernel_rfl))
    have e46 := hold 46 (unset_of (by kernel_rfl))
    have e47 := hold 47 (unset_of (by kernel_rfl))
    have e48 := hold 48 (unset_of (by kernel_rfl))
    have e49 := hold 49 (unset_of (by kernel_rfl))
    have e50 := hold 50 (unset_of (by kernel_rfl))
    have e51 := hold 51 (unset_of (by kernel_rfl))
    have e52 := hold 52 (unset_of (by kernel_rfl))
    have e53 := hold 53 (unset_of (by kernel_rfl))
    have e54 := hold 54 (unset_of (by kernel_rfl))
    have e55 := hold 55 (unset_of (by kernel_rfl))
    have e56 := hold 56 (unset_of (by kernel_rfl))
    have e57 := hold 57 (unset_of (by kernel_rfl))
    have e58 := hold 58 (unset_of (by kernel_rfl))
    have e59 := hold 59 (unset_of (by kernel_rfl))
    have e60 := hold 60 (unset_of (by kernel_rfl))
    have e61 := hold 61 (unset_of (by kernel_rfl))
    have e62 := hold 62 (unset_of (by kernel_rfl))
    obtain ⟨xa, xb, xc, ja, jb, jc, d45, q1, q2, q3, q4, q5, q6, q7, q8, q9⟩ : ∃ xa xb xc ja jb jc, a.tmps.getD 45 undef = .agg #[.bool true, .slice xa X1.length ja, .slice xb X2.length jb, .slice xc X3.length jc] ∧ Rd wx xa X1 ∧ Rd wx xb X2 ∧ Rd wx xc X3 ∧ X1.length ≤ ja ∧ ja ≤ maxLen ∧ X2.length ≤ jb ∧ jb ≤ maxLen ∧ X3.length ≤ jc ∧ jc ≤ maxLen := hdone 20 _ 45 rfl (by decide) rfl
    obtain ⟨r, d8, hr1, hr2⟩ : ∃ r, a.tmps.getD 8 undef = .pointer (some ⟨r, 0, none⟩) ∧ w2.heap.size ≤ r ∧ wx.heap[r]? = some (.cells #[.bool false, .slice none 0 0, .slice none 0 0, .slice none 0 0] 26) := hdone 21 _ 8 rfl (by decide) rfl
    clear hold hdone hsz hdf hsz' hdf'
    simp only [Array.getD_eq_getD_getElem?, List.getElem?_toArray, List.getElem?_cons_succ, List.getElem?_cons_zero, Option.getD_some] at e0 e1 e2 e3 e4 e5 e6 e7 e9 e10 e11 e12 e13 e14 e15 e16 e17 e18 e19 e20 e21 e22 e23 e24 e46 e47 e48 e49 e50 e51 e52 e53 e54 e55 e56 e57 e58 e59 e60 e61 e62 d45 d8
    simp only [show (List.range 63) = [0, 1, 2, 3, 4, 5, 6, 7, 8, 9, 10, 11, 12, 13, 14, 15, 16, 17, 18, 19, 20, 21, 22, 23, 24, 25, 26, 27, 28, 29, 30, 31, 32, 33, 34, 35, 36, 37, 38, 39, 40, 41, 42, 43, 44, 45, 46, 47, 48, 49, 50, 51, 52, 53, 54, 55, 56, 57, 58, 59, 60, 61, 62] from rfl, List.map_cons, List.map_nil] at ha
    simp only [e0, e1, e2, e3, e4, e5, e6, e7, e9, e10, e11, e12, e13, e14, e15, e16, e17, e18, e19, e20, e21, e22, e23, e24, e46, e47, e48, e49, e50, e51, e52, e53, e54, e55, e56, e57, e58, e59, e60, e61, e62, d45, d8] at ha
    clear e0 e1 e2 e3 e4 e5 e6 e7 e9 e10 e11 e12 e13 e14 e15 e16 e17 e18 e19 e20 e21 e22 e23 e24 e46 e47 e48 e49 e50 e51 e52 e53 e54 e55 e56 e57 e58 e59 e60 e61 e62 d45 d8
    generalize a.tmps[25]?.getD undef = u25 at ha
    generalize a.tmps[26]?.getD undef = u26 at ha
    generalize a.tmps[27]?.getD undef = u27 at ha
    generalize a.tmps[28]?.getD undef = u28 at ha
    generalize a.tmps[29]?.getD undef = u29 at ha
    generalize a.tmps[30]?.getD undef = u30 at ha
    generalize a.tmps[31]?.getD undef = u31 at ha
    generalize a.tmps[32]?.getD undef = u32 at ha
    generalize a.tmps[33]?.getD undef = u33 at ha
    generalize a.tmps[34]?.getD undef = u34 at ha
    generalize a.tmps[35]?.getD undef = u35 at ha
    generalize a.tmps[36]?.getD undef = u36 at ha
    generalize a.tmps[37]?.getD undef = u37 at ha
    generalize a.tmps[38]?.getD undef = u38 at ha
    generalize a.tmps[39]?.getD undef = u39 at ha
    generalize a.tmps[40]?.getD undef = u40 at ha
    generalize a.tmps[41]?.getD undef = u41 at ha
    generalize a.tmps[42]?.getD undef = u42 at ha
    generalize a.tmps[43]?.getD undef = u43 at ha
    generalize a.tmps[44]?.getD undef = u44 at ha
    subst ha
    intro K hK
    have HK := Lib.hid hK
    clear hK
    have rr0 : r ≠ w.heap.size := by omega
    have rr1 : r ≠ w.heap.size + 1 := by omega
    have rr2 : r ≠ w.heap.size + 2 := by omega
    have XR : ((((wx.setCell ⟨r, 0, none⟩ (.bool true)).setCell ⟨r, 1, none⟩ (.slice xa X1.length ja)).setCell ⟨r, 2, none⟩ (.slice xb X2.length jb)).setCell ⟨r, 3, none⟩ (.slice xc X3.length jc)).heap[r]? = some (.cells #[.bool true, .slice xa X1.length ja, .slice xb X2.length jb, .slice xc X3.length jc] 26) := by
      rw [heap_setCell_same _ _ 3 _ _ _ (heap_setCell_same _ _ 2 _ _ _ (heap_setCell_same _ _ 1 _ _ _ (heap_setCell_same _ _ 0 _ _ _ hr2)))]
      rfl
    have hset : ∀ g, g ≠ r → ((((wx.setCell ⟨r, 0, none⟩ (.bool true)).setCell ⟨r, 1, none⟩ (.slice xa X1.length ja)).setCell ⟨r, 2, none⟩ (.slice xb X2.length jb)).setCell ⟨r, 3, none⟩ (.slice xc X3.length jc)).heap[g]? = wx.heap[g]? := fun g hg => by
      rw [Below.heap_setCell _ _ _ _ hg, Below.heap_setCell _ _ _ _ hg, Below.heap_setCell _ _ _ _ hg, Below.heap_setCell _ _ _ _ hg]
    have Q1 : Rd ((((wx.setCell ⟨r, 0, none⟩ (.bool true)).setCell ⟨r, 1, none⟩ (.slice xa X1.length ja)).setCell ⟨r, 2, none⟩ (.slice xb X2.length jb)).setCell ⟨r, 3, none⟩ (.slice xc X3.length jc)) xa X1 := q1.set4B SC.out.1 hr2 zero_not _ _ _ _
    have Q2 : Rd ((((wx.setCell ⟨r, 0, none⟩ (.bool true)).setCell ⟨r, 1, none⟩ (.slice xa X1.length ja)).setCell ⟨r, 2, none⟩ (.slice xb X2.length jb)).setCell ⟨r, 3, none⟩ (.slice xc X3.length jc)) xb X2 := q2.set4B SC.out.2.1 hr2 zero_not _ _ _ _
    have Q3 : Rd ((((wx.setCell ⟨r, 0, none⟩ (.bool true)).setCell ⟨r, 1, none⟩ (.slice xa X1.length ja)).setCell ⟨r, 2, none⟩ (.slice xb X2.length jb)).setCell ⟨r, 3, none⟩ (.slice xc X3.length jc)) xc X3 := q3.set4B SC.out.2.2.1 hr2 zero_not _ _ _ _
    have BZ : Below w.heap.size w ((((wx.setCell ⟨r, 0, none⟩ (.bool true)).setCell ⟨r, 1, none⟩ (.slice xa X1.length ja)).setCell ⟨r, 2, none⟩ (.slice xb X2.length jb)).setCell ⟨r, 3, none⟩ (.slice xc X3.length jc)) := ((((chain B2.out hS).setCell (Nat.le_trans (Nat.le_of_lt lt0) hr1) _).setCell (Nat.le_trans (Nat.le_of_lt lt0) hr1) _).setCell (Nat.le_trans (Nat.le_of_lt lt0) hr1) _).setCell (Nat.le_trans (Nat.le_of_lt lt0) hr1) _
    have YA : ((((wx.setCell ⟨r, 0, none⟩ (.bool true)).setCell ⟨r, 1, none⟩ (.slice xa X1.length ja)).setCell ⟨r, 2, none⟩ (.slice xb X2.length jb)).setCell ⟨r, 3, none⟩ (.slice xc X3.length jc)).heap[w.heap.size]? = some (.cells #[.bool true, .slice ak lk ck, .slice av lv cv, .slice ac lc cc] 26) := by rw [hset _ (Ne.symm rr0)]; exact kept XA2.out hS
    have YB : ((((wx.setCell ⟨r, 0, none⟩ (.bool true)).setCell ⟨r, 1, none⟩ (.slice xa X1.length ja)).setCell ⟨r, 2, none⟩ (.slice xb X2.length jb)).setCell ⟨r, 3, none⟩ (.slice xc X3.length jc)).heap[w.heap.size + 1]? = some (.cells #[.bool true, .slice bk mk dk, .slice bv mv dv, .slice bc mc dc] 26) := by rw [hset _ (Ne.symm rr1)]; exact kept XB2.out hS
    have YZ : ((((wx.setCell ⟨r, 0, none⟩ (.bool true)).setCell ⟨r, 1, none⟩ (.slice xa X1.length ja)).setCell ⟨r, 2, none⟩ (.slice xb X2.length jb)).setCell ⟨r, 3, none⟩ (.slice xc X3.length jc)).heap[w.heap.size + 2]? = some (.cells #[.bool false, .slice none 0 0, .slice none 0 0, .slice none 0 0] 26) := by rw [hset _ (Ne.symm rr2)]; exact kept XZ2.out hS
    have y0 : wx.cell? ⟨r, 0, none⟩ = some (.bool false) := by rw [Go.Joins.cell_of_block hr2]; rfl
    have y1 : wx.cell? ⟨r, 1, none⟩ = some (.slice none 0 0) := by rw [Go.Joins.cell_of_block hr2]; rfl
    have y2 : wx.cell? ⟨r, 2, none⟩ = some (.slice none 0 0) := by rw [Go.Joins.cell_of_block hr2]; rfl
    have y3 : wx.cell? ⟨r, 3, none⟩ = some (.slice none 0 0) := by rw [Go.Joins.cell_of_block hr2]; rfl
    have f0 := Go.Joins.unfrozen_of_block hr2 0
    have f1 := Go.Joins.unfrozen_of_block hr2 1
    have f2 := Go.Joins.unfrozen_of_block hr2 2
    have f3 := Go.Joins.unfrozen_of_block hr2 3
    clear ca0 ca1 ca2 ca3 cb0 cb1 cb2 cb3 q1 q2 q3 hset C1 C2 C3 XA2 XB2 XZ2 B2 hS hr2
    have HR1 := Lib.hid hr1
    have RR0 := Lib.hid rr0
    have RR1 := Lib.hid rr1
    have RR2 := Lib.hid rr2
    have LT0 := Lib.hid lt0
    have q4H := Lib.hid (And.intro q4 (And.intro q5 (And.intro q6 (And.intro q7 (And.intro q8 q9)))))
    clear hr1 rr0 rr1 rr2 lt0 lt1 lt2 q4 q5 q6 q7 q8 q9
    rw [if_pos (by rfl)]
    go_simp
    refine HK.out _ _ ?_
    clear y0 y1 y2 y3 f0 f1 f2 f3 HK K
    obtain ⟨wz, hwz⟩ : ∃ wz, ((((wx.setCell ⟨r, 0, none⟩ (.bool true)).setCell ⟨r, 1, none⟩ (.slice xa X1.length ja)).setCell ⟨r, 2, none⟩ (.slice xb X2.length jb)).setCell ⟨r, 3, none⟩ (.slice xc X3.length jc)) = wz := ⟨_, rfl⟩
    rw [hwz] at XR Q1 Q2 Q3 BZ YA YB YZ ⊢
    clear hwz
    have XRH := Lib.hid XR
    have Q1H := Lib.hid Q1
    have Q2H := Lib.hid Q2
    have Q3H := Lib.hid Q3
    have BZH := Lib.hid BZ
    have YAH := Lib.hid YA
    have YBH := Lib.hid YB
    have YZH := Lib.hid YZ
    clear XR Q1 Q2 Q3 BZ YA YB YZ
    have a0 : wz.cell? ⟨w.heap.size, 0, none⟩ = some (.bool true) := by rw [Go.Joins.cell_of_block YAH.out]; rfl
    have a1 : wz.cell? ⟨w.heap.size, 1, none⟩ = some (.slice ak lk ck) := by rw [Go.Joins.cell_of_block YAH.out]; rfl
    have a2 : wz.cell? ⟨w.heap.size, 2, none⟩ = some (.slice av lv cv) := by rw [Go.Joins.cell_of_block YAH.out]; rfl
    have a3 : wz.cell? ⟨w.heap.size, 3, none⟩ = some (.slice ac lc cc) := by rw [Go.Joins.cell_of_block YAH.out]; rfl
    have z0 : wz.cell? ⟨r, 0, none⟩ = some (.bool true) := by rw [Go.Joins.cell_of_block XRH.out]; rfl
    have z1 : wz.cell? ⟨r, 1, none⟩ = some (.slice xa X1.length ja) := by rw [Go.Joins.cell_of_block XRH.out]; rfl
    have z2 : wz.cell? ⟨r, 2, none⟩ = some (.slice xb X2.length jb) := by rw [Go.Joins.cell_of_block XRH.out]; rfl
    have z3 : wz.cell? ⟨r, 3, none⟩ = some (.slice xc X3.length jc) := by rw [Go.Joins.cell_of_block XRH.out]; rfl
    go_wp2_with fail
    refine (SZ.out _ _ _ _ _ _ _ Q1H.out Q2H.out Q3H.out q4H.out.1 q4H.out.2.1 q4H.out.2.2.1 q4H.out.2.2.2.1 q4H.out.2.2.2.2.1 q4H.out.2.2.2.2.2).mono ?_
    rintro e v5 ⟨rfl, b5⟩
    have XR5 := kept XRH.out b5
    have YZ5 := kept YZH.out b5
    have Q15 := Q1H.out.below b5
    have Q25 := Q2H.out.below b5
    have Q35 := Q3H.out.below b5
    have B5 := chain BZH.out b5
    clear b5
    have r0 : v5.cell? ⟨r, 0, none⟩ = some (.bool true) := by rw [Go.Joins.cell_of_block XR5]; rfl
    have r1 : v5.cell? ⟨r, 1, none⟩ = some (.slice xa X1.length ja) := by rw [Go.Joins.cell_of_block XR5]; rfl
    have r2 : v5.cell? ⟨r, 2, none⟩ = some (.slice xb X2.length jb) := by rw [Go.Joins.cell_of_block XR5]; rfl
    have r3 : v5.cell? ⟨r, 3, none⟩ = some (.slice xc X3.length jc) := by rw [Go.Joins.cell_of_block XR5]; rfl
    have y0 : v5.cell? ⟨w.heap.size + 2, 0, none⟩ = some (.bool false) := by rw [Go.Joins.cell_of_block YZ5]; rfl
    have y1 : v5.cell? ⟨w.heap.size + 2, 1, none⟩ = some (.slice none 0 0) := by rw [Go.Joins.cell_of_block YZ5]; rfl
    have y2 : v5.cell? ⟨w.heap.size + 2, 2, none⟩ = some (.slice none 0 0) := by rw [Go.Joins.cell_of_block YZ5]; rfl
    have y3 : v5.cell? ⟨w.heap.size + 2, 3, none⟩ = some (.slice none 0 0) := by rw [Go.Joins.cell_of_block YZ5]; rfl
    have f0 := Go.Joins.unfrozen_of_block YZ5 0
    have f1 := Go.Joins.unfrozen_of_block YZ5 1
    have f2 := Go.Joins.unfrozen_of_block YZ5 2
    have f3 := Go.Joins.unfrozen_of_block YZ5 3
    by_cases hz : z ≤ 240
    · have hzi : ¬ (240 : Int) < (z : Int) := by omega
      have hzd : decide (z ≤ 240) = true := by simpa using hz
      have HZD := Lib.hid hzd
      clear hzd hz
      have XF : ((((v5.setCell ⟨w.heap.size + 2, 0, none⟩ (.bool true)).setCell ⟨w.heap.size + 2, 1, none⟩ (.slice xa X1.length ja)).setCell ⟨w.heap.size + 2, 2, none⟩ (.slice xb X2.length jb)).setCell ⟨w.heap.size + 2, 3, none⟩ (.slice xc X3.length jc)).heap[w.heap.size + 2]? = some (.cells #[.bool true, .slice xa X1.length ja, .slice xb X2.length jb, .slice xc X3.length jc] 26) := by
        rw [heap_setCell_same _ _ 3 _ _ _ (heap_setCell_same _ _ 2 _ _ _ (heap_setCell_same _ _ 1 _ _ _ (heap_setCell_same _ _ 0 _ _ _ YZ5)))]
        rfl
      have FB : Below w.heap.size w ((((v5.setCell ⟨w.heap.size + 2, 0, none⟩ (.bool true)).setCell ⟨w.heap.size + 2, 1, none⟩ (.slice xa X1.length ja)).setCell ⟨w.heap.size + 2, 2, none⟩ (.slice xb X2.length jb)).setCell ⟨w.heap.size + 2, 3, none⟩ (.slice xc X3.length jc)) := (((B5.setCell (Nat.le_add_right _ _) _).setCell (Nat.le_add_right _ _) _).setCell (Nat.le_add_right _ _) _).setCell (Nat.le_add_right _ _) _
      have F1 : Rd ((((v5.setCell ⟨w.heap.size + 2, 0, none⟩ (.bool true)).setCell ⟨w.heap.size + 2, 1, none⟩ (.slice xa X1.length ja)).setCell ⟨w.heap.size + 2, 2, none⟩ (.slice xb X2.length jb)).setCell ⟨w.heap.size + 2, 3, none⟩ (.slice xc X3.length jc)) xa X1 := Q15.set4B SC.out.1 YZ5 zero_not _ _ _ _
      have F2 : Rd ((((v5.setCell ⟨w.heap.size + 2, 0, none⟩ (.bool true)).setCell ⟨w.heap.size + 2, 1, none⟩ (.slice xa X1.length ja)).setCell ⟨w.heap.size + 2, 2, none⟩ (.slice xb X2.length jb)).setCell ⟨w.heap.size + 2, 3, none⟩ (.slice xc X3.length jc)) xb X2 := Q25.set4B SC.out.2.1 YZ5 zero_not _ _ _ _
      have F3 : Rd ((((v5.setCell ⟨w.heap.size + 2, 0, none⟩ (.bool true)).setCell ⟨w.heap.size + 2, 1, none⟩ (.slice xa X1.length ja)).setCell ⟨w.heap.size + 2, 2, none⟩ (.slice xb X2.length jb)).setCell ⟨w.heap.size + 2, 3, none⟩ (.slice xc X3.length jc)) xc X3 := Q35.set4B SC.out.2.2.1 YZ5 zero_not _ _ _ _
      clear XR5 YZ5 Q15 Q25 Q35 B5
      go_wp2_with fail
      obtain ⟨wf, hwf⟩ : ∃ wf, ((((v5.setCell ⟨w.heap.size + 2, 0, none⟩ (.bool true)).setCell ⟨w.heap.size + 2, 1, none⟩ (.slice xa X1.length ja)).setCell ⟨w.heap.size + 2, 2, none⟩ (.slice xb X2.length jb)).setCell ⟨w.heap.size + 2, 3, none⟩ (.slice xc X3.length jc)) = wf := ⟨_, rfl⟩
      rw [hwf] at XF FB F1 F2 F3 ⊢
      clear hwf
      have g0 : wf.cell? ⟨w.heap.size + 2, 0, none⟩ = some (.bool true) := by rw [Go.Joins.cell_of_block XF]; rfl
      have g1 : wf.cell? ⟨w.heap.size + 2, 1, none⟩ = some (.slice xa X1.length ja) := by rw [Go.Joins.cell_of_block XF]; rfl
      have g2 : wf.cell? ⟨w.heap.size + 2, 2, none⟩ = some (.slice xb X2.length jb) := by rw [Go.Joins.cell_of_block XF]; rfl
      have g3 : wf.cell? ⟨w.heap.size + 2, 3, none⟩ = some (.slice xc X3.length jc) := by rw [Go.Joins.cell_of_block XF]; rfl
      have FIN : JOut true X1 X2 X3 (decide (z ≤ 240)) (.returned (.tuple #[.agg #[.bool true, .slice xa X1.length ja, .slice xb X2.length jb, .slice xc X3.length jc], .bool true])) wf := by
        unfold JOut
        rw [HZD.out]
        exact ⟨_, _, _, _, _, _, rfl, F1, F2, F3, q4H.out.1, q4H.out.2.1, q4H.out.2.2.1, q4H.out.2.2.2.1, q4H.out.2.2.2.2.1, q4H.out.2.2.2.2.2⟩
      exact bodyPost_ret (v := .tuple #[.agg #[.bool true, .slice xa X1.length ja, .slice xb X2.length jb, .slice xc X3.length jc], .bool true]) (by simp [results, Try.results26, go_sem, g0, g1, g2, g3]) rfl ⟨FIN, FB⟩
    · have hzi : (240 : Int) < (z : Int) := by omega
      have hzd : decide (z ≤ 240) = false := by simpa using hz
      have HZD := Lib.hid hzd
      clear hzd hz
      have XF : ((((v5.setCell ⟨w.heap.size + 2, 0, none⟩ (.bool false)).setCell ⟨w.heap.size + 2, 1, none⟩ (.slice none 0 0)).setCell ⟨w.heap.size + 2, 2, none⟩ (.slice none 0 0)).setCell ⟨w.heap.size + 2, 3, none⟩ (.slice none 0 0)).heap[w.heap.size + 2]? = some (.cells #[.bool false, .slice none 0 0, .slice none 0 0, .slice none 0 0] 26) := by
        rw [heap_setCell_same _ _ 3 _ _ _ (heap_setCell_same _ _ 2 _ _ _ (heap_setCell_same _ _ 1 _ _ _ (heap_setCell_same _ _ 0 _ _ _ YZ5)))]
        rfl
      have FB : Below w.heap.size w ((((v5.setCell ⟨w.heap.size + 2, 0, none⟩ (.bool false)).setCell ⟨w.heap.size + 2, 1, none⟩ (.slice none 0 0)).setCell ⟨w.heap.size + 2, 2, none⟩ (.slice none 0 0)).setCell ⟨w.heap.size + 2, 3, none⟩ (.slice none 0 0)) := (((B5.setCell (Nat.le_add_right _ _) _).setCell (Nat.le_add_right _ _) _).setCell (Nat.le_add_right _ _) _).setCell (Nat.le_add_right _ _) _
      clear XR5 YZ5 Q15 Q25 Q35 B5
      go_wp2_with fail
      obtain ⟨wf, hwf⟩ : ∃ wf, ((((v5.setCell ⟨w.heap.size + 2, 0, none⟩ (.bool false)).setCell ⟨w.heap.size + 2, 1, none⟩ (.slice none 0 0)).setCell ⟨w.heap.size + 2, 2, none⟩ (.slice none 0 0)).setCell ⟨w.heap.size + 2, 3, none⟩ (.slice none 0 0)) = wf := ⟨_, rfl⟩
      rw [hwf] at XF FB ⊢
      clear hwf
      have g0 : wf.cell? ⟨w.heap.size + 2, 0, none⟩ = some (.bool false) := by rw [Go.Joins.cell_of_block XF]; rfl
      have g1 : wf.cell? ⟨w.heap.size + 2, 1, none⟩ = some (.slice none 0 0) := by rw [Go.Joins.cell_of_block XF]; rfl
      have g2 : wf.cell? ⟨w.heap.size + 2, 2, none⟩ = some (.slice none 0 0) := by rw [Go.Joins.cell_of_block XF]; rfl
      have g3 : wf.cell? ⟨w.heap.size + 2, 3, none⟩ = some (.slice none 0 0) := by rw [Go.Joins.cell_of_block XF]; rfl
      have FIN : JOut true X1 X2 X3 (decide (z ≤ 240)) (.returned (.tuple #[.agg #[.bool false, .slice none 0 0, .slice none 0 0, .slice none 0 0], .bool false])) wf := by
        unfold JOut
        rw [HZD.out]
        exact rfl
      exact bodyPost_ret (v := .tuple #[.agg #[.bool false, .slice none 0 0, .slice none 0 0, .slice none 0 0], .bool false]) (by simp [results, Try.results26, go_sem, g0, g1, g2, g3]) rfl ⟨FIN, FB⟩
set_option maxHeartbeats 6400000 in
set_option maxRecDepth 20000 in
theorem join_branch (ak av ac bk bv bc : Option Addr) (ck cv cc dk dv dc lk lv lc mk mv mc z : Nat) (mid : Int) (X1 X2 X3 X4 : List Value) (w : World)
    (WA : Hid (∀ w, Calls Try.prog 34 #[.agg #[.bool false, .slice ak lk ck, .slice av lv cv, .slice ac lc cc]] w fun e w' => e = .returned (.bool true) ∧ Below w.heap.size w w'))
    (WB : Hid (∀ w, Calls Try.prog 34 #[.agg #[.bool false, .slice bk mk dk, .slice bv mv dv, .slice bc mc dc]] w fun e w' => e = .returned (.bool true) ∧ Below w.heap.size w w'))
    (C1 : Hid (∀ wx a, Below w.heap.size w wx → Rd wx a [.slice ak lk ck, .slice bk mk dk] → Calls Try.prog 35 #[.slice a 2 2] wx fun e w' => RowOut wx.heap.size 27 X1 e w' ∧ Below wx.heap.size wx w'))
    (C2 : Hid (∀ wx a, Below w.heap.size w wx → Rd wx a [.slice av lv cv, .slice bv mv dv] → Calls Try.prog 36 #[.slice a 2 2] wx fun e w' => RowOut wx.heap.size 9 X2 e w' ∧ Below wx.heap.size wx w'))
    (C3 : Hid (∀ wx a, Below w.heap.size w wx → Rd wx a [.slice ac lc cc, .slice bc mc dc] → Calls Try.prog 37 #[.slice a 2 2] wx fun e w' => RowOut wx.heap.size 3 X3 e w' ∧ Below wx.heap.size wx w'))
    (C4 : Hid (∀ wx a m, Below w.heap.size w wx → Rd wx a [.slice ak lk ck, .slice m 1 1, .slice bk mk dk] → Rd wx m [.int .u64 mid] → Calls Try.prog 35 #[.slice a 3 3] wx fun e w' => RowOut wx.heap.size 27 X4 e w' ∧ Below wx.heap.size wx w'))
    (SC : Hid ((∀ u ∈ X1, scalar u = true) ∧ (∀ u ∈ X2, scalar u = true) ∧ (∀ u ∈ X3, scalar u = true) ∧ ∀ u ∈ X4, scalar u = true))
    (SZ : Hid (∀ wx xa xb xc ca cb cd, Rd wx xa X4 → Rd wx xb X2 → Rd wx xc X3 → X4.length ≤ ca → ca ≤ maxLen → X2.length ≤ cb → cb ≤ maxLen → X3.length ≤ cd → cd ≤ maxLen → Calls Try.prog 33 #[.agg #[.bool false, .slice xa X4.length ca, .slice xb X2.length cb, .slice xc X3.length cd]] wx fun e w' => e = .returned (.int .i64 (z : Int)) ∧ Below wx.heap.size wx w')) :
    Calls Try.prog 26 #[.agg #[.bool false, .slice ak lk ck, .slice av lv cv, .slice ac lc cc], .int .u64 mid, .agg #[.bool false, .slice bk mk dk, .slice bv mv dv, .slice bc mc dc]] w fun e w' => JOut false X4 X2 X3 (decide (z ≤ 240)) e w' ∧ Below w.heap.size w w' := by
  obtain ⟨W, hW⟩ : ∃ W, ((w.alloc (.cells #[.bool false, .slice ak lk ck, .slice av lv cv, .slice ac lc cc] 26)).alloc (.cells #[.bool false, .slice bk mk dk, .slice bv mv dv, .slice bc mc dc] 26)).alloc (.cells #[.bool false, .slice none 0 0, .slice none 0 0, .slice none 0 0] 26) = W := ⟨_, rfl⟩
  have hsz : (w.alloc (.cells #[.bool false, .slice ak lk ck, .slice av lv cv, .slice ac lc cc] 26)).heap.size = w.heap.size + 1 := by simp
  have hsz2 : ((w.alloc (.cells #[.bool false, .slice ak lk ck, .slice av lv cv, .slice ac lc cc] 26)).alloc (.cells #[.bool false, .slice bk mk dk, .slice bv mv dv, .slice bc mc dc] 26)).heap.size = w.heap.size + 2 := by simp
  have bW : Below w.heap.size w W := by rw [← hW]; exact (((Below.refl _ _).alloc (Nat.le_refl _) _).alloc (by simp) _).alloc (by simp; omega) _
  have XA : Hid (W.heap[w.heap.size]? = some (.cells #[.bool false, .slice ak lk ck, .slice av lv cv, .slice ac lc cc] 26)) := Lib.hid (by rw [← hW]; exact (heap_alloc_old _ _ (by simp; omega)).trans ((heap_alloc_old _ _ (by simp)).trans (heap_alloc_new w _)))
  have XB : Hid (W.heap[w.heap.size + 1]? = some (.cells #[.bool false, .slice bk mk dk, .slice bv mv dv, .slice bc mc dc] 26)) := Lib.hid (by rw [← hW, ← hsz]; exact (heap_alloc_old _ _ (by simp)).trans (heap_alloc_new _ _))
  have XZ : Hid (W.heap[w.heap.size + 2]? = some (.cells #[.bool false, .slice none 0 0, .slice none 0 0, .slice none 0 0] 26)) := Lib.hid (by rw [← hW, ← hsz2]; exact heap_alloc_new _ _)
  have BW := Lib.hid bW
  have HW := Lib.hid hW
  clear bW hW hsz hsz2
  go_enter Try.func26, Try.ntmps26
  go_wp2_with fail
  refine (WA.out _).mono ?_
  rw [HW.out]
  rintro e v1 ⟨rfl, b1⟩
  have XA1 := Lib.hid (kept XA.out b1)
  have XB1 := Lib.hid (kept XB.out b1)
  have XZ1 := Lib.hid (kept XZ.out b1)
  have B1 := Lib.hid (chain BW.out b1)
  clear b1 XA XB XZ BW HW
  have y0 : v1.cell? ⟨w.heap.size + 1, 0, none⟩ = some (.bool false) := by rw [Go.Joins.cell_of_block XB1.out]; rfl
  have y1 : v1.cell? ⟨w.heap.size + 1, 1, none⟩ = some (.slice bk mk dk) := by rw [Go.Joins.cell_of_block XB1.out]; rfl
  have y2 : v1.cell? ⟨w.heap.size + 1, 2, none⟩ = some (.slice bv mv dv) := by rw [Go.Joins.cell_of_block XB1.out]; rfl
  have y3 : v1.cell? ⟨w.heap.size + 1, 3, none⟩ = some (.slice bc mc dc) := by rw [Go.Joins.cell_of_block XB1.out]; rfl
  go_wp2_with fail
  refine (WB.out _).mono ?_
  rintro e w2 ⟨rfl, b2⟩
  have XA2 := Lib.hid (kept XA1.out b2)
  have XB2 := Lib.hid (kept XB1.out b2)
  have XZ2 := Lib.hid (kept XZ1.out b2)
  have B2 := Lib.hid (chain B1.out b2)
  clear b2 XA1 XB1 XZ1 B1 y0 y1 y2 y3 WA WB
  have lt0 : w.heap.size < w2.heap.size := (Array.getElem?_eq_some_iff.1 XA2.out).1
  have lt1 : w.heap.size + 1 < w2.heap.size := (Array.getElem?_eq_some_iff.1 XB2.out).1
  have lt2 : w.heap.size + 2 < w2.heap.size := (Array.getElem?_eq_some_iff.1 XZ2.out).1
  have ca0 : w2.cell? ⟨w.heap.size, 0, none⟩ = some (.bool false) := by rw [Go.Joins.cell_of_block XA2.out]; rfl
  have ca1 : w2.cell? ⟨w.heap.size, 1, none⟩ = some (.slice ak lk ck) := by rw [Go.Joins.cell_of_block XA2.out]; rfl
  have ca2 : w2.cell? ⟨w.heap.size, 2, none⟩ = some (.slice av lv cv) := by rw [Go.Joins.cell_of_block XA2.out]; rfl
  have ca3 : w2.cell? ⟨w.heap.size, 3, none⟩ = some (.slice ac lc cc) := by rw [Go.Joins.cell_of_block XA2.out]; rfl
  have cb0 : w2.cell? ⟨w.heap.size + 1, 0, none⟩ = some (.bool false) := by rw [Go.Joins.cell_of_block XB2.out]; rfl
  have cb1 : w2.cell? ⟨w.heap.size + 1, 1, none⟩ = some (.slice bk mk dk) := by rw [Go.Joins.cell_of_block XB2.out]; rfl
  have cb2 : w2.cell? ⟨w.heap.size + 1, 2, none⟩ = some (.slice bv mv dv) := by rw [Go.Joins.cell_of_block XB2.out]; rfl
  have cb3 : w2.cell? ⟨w.heap.size + 1, 3, none⟩ = some (.slice bc mc dc) := by rw [Go.Joins.cell_of_block XB2.out]; rfl
  go_wp2_with fail
  refine region_kit 22 63 [eqV (.pointer (some ⟨w.heap.size, 0, none⟩)), eqV (.bool false), eqV (.pointer (some ⟨w.heap.size, 1, none⟩)), eqV (.slice ak lk ck), eqV (.pointer (some ⟨w.heap.size + 1, 1, none⟩)), eqV (.slice bk mk dk), lstV [.slice ak lk ck, .slice bk mk dk], rdFV w2.heap.size X1, eqV (.pointer (some ⟨w.heap.size, 2, none⟩)), eqV (.slice av lv cv), eqV (.pointer (some ⟨w.heap.size + 1, 2, none⟩)), eqV (.slice bv mv dv), lstV [.slice av lv cv, .slice bv mv dv], rdFV w2.heap.size X2, eqV (.pointer (some ⟨w.heap.size, 3, none⟩)), eqV (.slice ac lc cc), eqV (.pointer (some ⟨w.heap.size + 1, 3, none⟩)), eqV (.slice bc mc dc), lstV [.slice ac lc cc, .slice bc mc dc], rdFV w2.heap.size X3, nodJ false X1 X2 X3, boxZ w2.heap.size, anyV] (by kernel_rfl) (by kernel_rfl) (by rfl) ?owes ?ends
  case owes =>
    refine OwesAll.cons (k := 0) ?_ ?_
    · intro o ho a wx hS hold hdep K hK
      simp only [List.getElem?_toArray, List.getElem?_cons_succ, List.getElem?_cons_zero, Option.some.injEq] at ho
      subst ho
      have HK := Lib.hid hK
      clear hK
      have d3 : a.tmps.getD 3 undef = .pointer (some ⟨w.heap.size, 0, none⟩) := hold 3 (unset_of (by kernel_rfl))
      clear hold hdep
      rw [Array.getD_eq_getD_getElem?] at d3
      rw [if_pos (by rfl)]
      go_simp
      exact HK.out _ _ rfl (Below.refl _ _)
    refine OwesAll.cons (k := 1) ?_ ?_
    · intro o ho a wx hS hold hdep K hK
      simp only [List.getElem?_toArray, List.getElem?_cons_succ, List.getElem?_cons_zero, Option.some.injEq] at ho
      subst ho
      have HK := Lib.hid hK
      clear hK
      have d25 : a.tmps.getD 25 undef = .pointer (some ⟨w.heap.size, 0, none⟩) := dep_at hdep 0 rfl rfl (by kernel_rfl)
      clear hold hdep
      rw [Array.getD_eq_getD_getElem?] at d25
      rw [if_pos (by rfl)]
      have c0 : wx.cell? ⟨w.heap.size, 0, none⟩ = some (.bool false) := (hS.cell (p := ⟨w.heap.size, 0, none⟩) lt0).trans ca0
      go_simp
      exact HK.out _ _ rfl (Below.refl _ _)
    refine OwesAll.cons (k := 2) ?_ ?_
    · intro o ho a wx hS hold hdep K hK
      simp only [List.getElem?_toArray, List.getElem?_cons_succ, List.getElem?_cons_zero, Option.some.injEq] at ho
      subst ho
      have HK := Lib.hid hK
      clear hK
      have d3 : a.tmps.getD 3 undef = .pointer (some ⟨w.heap.size, 0, none⟩) := hold 3 (unset_of (by kernel_rfl))
      clear hold hdep
      rw [Array.getD_eq_getD_getElem?] at d3
      rw [if_pos (by rfl)]
      go_simp
      exact HK.out _ _ rfl (Below.refl _ _)
    refine OwesAll.cons (k := 3) ?_ ?_
    · intro o ho a wx hS hold hdep K hK
      simp only [List.getElem?_toArray, List.getElem?_cons_succ, List.getElem?_cons_zero, Option.some.injEq] at ho
      subst ho
      have HK := Lib.hid hK
      clear hK
      have d27 : a.tmps.getD 27 undef = .pointer (some ⟨w.heap.size, 1, none⟩) := dep_at hdep 2 rfl rfl (by kernel_rfl)
      clear hold hdep
      rw [Array.getD_eq_getD_getElem?] at d27
      rw [if_pos (by rfl)]
      have c0 : wx.cell? ⟨w.heap.size, 1, none⟩ = some (.slice ak lk ck) := (hS.cell (p := ⟨w.heap.size, 1, none⟩) lt0).trans ca1
      go_simp
      exact HK.out _ _ rfl (Below.refl _ _)
    refine OwesAll.cons (k := 4) ?_ ?_
    · intro o ho a wx hS hold hdep K hK
      simp only [List.getElem?_toArray, List.getElem?_cons_succ, List.getElem?_cons_zero, Option.some.injEq] at ho
      subst ho
      have HK := Lib.hid hK
      clear hK
      have d5 : a.tmps.getD 5 undef = .pointer (some ⟨w.heap.size + 1, 0, none⟩) := hold 5 (unset_of (by kernel_rfl))
      clear hold hdep
      rw [Array.getD_eq_getD_getElem?] at d5
      rw [if_pos (by rfl)]
      go_simp
      exact HK.out _ _ rfl (Below.refl _ _)
    refine OwesAll.cons (k := 5) ?_ ?_
    · intro o ho a wx hS hold hdep K hK
      simp only [List.getElem?_toArray, List.getElem?_cons_succ, List.getElem?_cons_zero, Option.some.injEq] at ho
      subst ho
      have HK := Lib.hid hK
      clear hK
      have d29 : a.tmps.getD 29 undef = .pointer (some ⟨w.heap.size + 1, 1, none⟩) := dep_at hdep 4 rfl rfl (by kernel_rfl)
      clear hold hdep
      rw [Array.getD_eq_getD_getElem?] at d29
      rw [if_pos (by rfl)]
      have c0 : wx.cell? ⟨w.heap.size + 1, 1, none⟩ = some (.slice bk mk dk) := (hS.cell (p := ⟨w.heap.size + 1, 1, none⟩) lt1).trans cb1
      go_simp
      exact HK.out _ _ rfl (Below.refl _ _)
    refine OwesAll.cons (k := 6) ?_ ?_
    · intro o ho a wx hS hold hdep K hK
      simp only [List.getElem?_toArray, List.getElem?_cons_succ, List.getElem?_cons_zero, Option.some.injEq] at ho
      subst ho
      have HK := Lib.hid hK
      clear hK
      have d28 : a.tmps.getD 28 undef = .slice ak lk ck := dep_at hdep 3 rfl rfl (by kernel_rfl)
      have d30 : a.tmps.getD 30 undef = .slice bk mk dk := dep_at hdep 5 rfl rfl (by kernel_rfl)
      clear hold hdep
      rw [Array.getD_eq_getD_getElem?] at d28
      rw [Array.getD_eq_getD_getElem?] at d30
      rw [if_pos (by rfl)]
      go_simp
      exact HK.out _ _ ⟨_, rfl, Rd.made _ _ _⟩ (below_made _ _)
    refine OwesAll.cons (k := 7) ?_ ?_
    · intro o ho a wx hS hold hdep K hK
      simp only [List.getElem?_toArray, List.getElem?_cons_succ, List.getElem?_cons_zero, Option.some.injEq] at ho
      subst ho
      have HK := Lib.hid hK
      clear hK
      obtain ⟨a31, d31, r31⟩ : ∃ a', a.tmps.getD 31 undef = .slice a' 2 2 ∧ Rd wx a' [.slice ak lk ck, .slice bk mk dk] := dep_at hdep 6 rfl rfl (by kernel_rfl)
      clear hold hdep
      rw [Array.getD_eq_getD_getElem?] at d31
      rw [if_pos (by rfl)]
      have CA := C1.out wx a31 (chain B2.out hS) r31
      clear r31
      go_simp
      go_wp2_with fail
      refine CA.mono ?_
      rintro e w9 ⟨⟨v9, rfl, h9⟩, b9⟩
      exact HK.out _ _ (out_rdFV h9 hS.size) b9
    refine OwesAll.cons (k := 8) ?_ ?_
    · intro o ho a wx hS hold hdep K hK
      simp only [List.getElem?_toArray, List.getElem?_cons_succ, List.getElem?_cons_zero, Option.some.injEq] at ho
      subst ho
      have HK := Lib.hid hK
      clear hK
      have d3 : a.tmps.getD 3 undef = .pointer (some ⟨w.heap.size, 0, none⟩) := hold 3 (unset_of (by kernel_rfl))
      clear hold hdep
      rw [Array.getD_eq_getD_getElem?] at d3
      rw [if_pos (by rfl)]
      go_simp
      exact HK.out _ _ rfl (Below.refl _ _)
    refine OwesAll.cons (k := 9) ?_ ?_
    · intro o ho a wx hS hold hdep K hK
      simp only [List.getElem?_toArray, List.getElem?_cons_succ, List.getElem?_cons_zero, Option.some.injEq] at ho
      subst ho
      have HK := Lib.hid hK
      clear hK
      have d33 : a.tmps.getD 33 undef = .pointer (some ⟨w.heap.size, 2, none⟩) := dep_at hdep 8 rfl rfl (by kernel_rfl)
      clear hold hdep
      rw [Array.getD_eq_getD_getElem?] at d33
      rw [if_pos (by rfl)]
      have c0 : wx.cell? ⟨w.heap.size, 2, none⟩ = some (.slice av lv cv) := (hS.cell (p := ⟨w.heap.size, 2, none⟩) lt0).trans ca2
      go_simp
      exact HK.out _ _ rfl (Below.refl _ _)
    refine OwesAll.cons (k := 10) ?_ ?_
    · intro o ho a wx hS hold hdep K hK
      simp only [List.getElem?_toArray, List.getElem?_cons_succ, List.getElem?_cons_zero, Option.some.injEq] at ho
      subst ho
      have HK := Lib.hid hK
      clear hK
      have d5 : a.tmps.getD 5 undef = .pointer (some ⟨w.heap.size + 1, 0, none⟩) := hold 5 (unset_of (by kernel_rfl))
      clear hold hdep
      rw [Array.getD_eq_getD_getElem?] at d5
      rw [if_pos (by rfl)]
      go_simp
      exact HK.out _ _ rfl (Below.refl _ _)
    refine OwesAll.cons (k := 11) ?_ ?_
    · intro o ho a wx hS hold hdep K hK
      simp only [List.getElem?_toArray, List.getElem?_cons_succ, List.getElem?_cons_zero, Option.some.injEq] at ho
      subst ho
      have HK := Lib.hid hK
      clear hK
      have d35 : a.tmps.getD 35 undef = .pointer (some ⟨w.heap.size + 1, 2, none⟩) := dep_at hdep 10 rfl rfl (by kernel_rfl)
      clear hold hdep
      rw [Array.getD_eq_getD_getElem?] at d35
      rw [if_pos (by rfl)]
      have c0 : wx.cell? ⟨w.heap.size + 1, 2, none⟩ = some (.slice bv mv dv) := (hS.cell (p := ⟨w.heap.size + 1, 2, none⟩) lt1).trans cb2
      go_simp
      exact HK.out _ _ rfl (Below.refl _ _)
    refine OwesAll.cons (k := 12) ?_ ?_
    · intro o ho a wx hS hold hdep K hK
      simp only [List.getElem?_toArray, List.getElem?_cons_succ, List.getElem?_cons_zero, Option.some.injEq] at ho
      subst ho
      have HK := Lib.hid hK
      clear hK
      have d34 : a.tmps.getD 34 undef = .slice av lv cv := dep_at hdep 9 rfl rfl (by kernel_rfl)
      have d36 : a.tmps.getD 36 undef = .slice bv mv dv := dep_at hdep 11 rfl rfl (by kernel_rfl)
      clear hold hdep
      rw [Array.getD_eq_getD_getElem?] at d34
      rw [Array.getD_eq_getD_getElem?] at d36
      rw [if_pos (by rfl)]
      go_simp
      exact HK.out _ _ ⟨_, rfl, Rd.made _ _ _⟩ (below_made _ _)
    refine OwesAll.cons (k := 13) ?_ ?_
    · intro o ho a wx hS hold hdep K hK
      simp only [List.getElem?_toArray, List.getElem?_cons_succ, List.getElem?_cons_zero, Option.some.injEq] at ho
      subst ho
      have HK := Lib.hid hK
      clear hK
      obtain ⟨a37, d37, r37⟩ : ∃ a', a.tmps.getD 37 undef = .slice a' 2 2 ∧ Rd wx a' [.slice av lv cv, .slice bv mv dv] := dep_at hdep 12 rfl rfl (by kernel_rfl)
      clear hold hdep
      rw [Array.getD_eq_getD_getElem?] at d37
      rw [if_pos (by rfl)]
      have CA := C2.out wx a37 (chain B2.out hS) r37
      clear r37
      go_simp
      go_wp2_with fail
      refine CA.mono ?_
      rintro e w9 ⟨⟨v9, rfl, h9⟩, b9⟩
      exact HK.out _ _ (out_rdFV h9 hS.size) b9
    refine OwesAll.cons (k := 14) ?_ ?_
    · intro o ho a wx hS hold hdep K hK
      simp only [List.getElem?_toArray, List.getElem?_cons_succ, List.getElem?_cons_zero, Option.some.injEq] at ho
      subst ho
      have HK := Lib.hid hK
      clear hK
      have d3 : a.tmps.getD 3 undef = .pointer (some ⟨w.heap.size, 0, none⟩) := hold 3 (unset_of (by kernel_rfl))
      clear hold hdep
      rw [Array.getD_eq_getD_getElem?] at d3
      rw [if_pos (by rfl)]
      go_simp
      exact HK.out _ _ rfl (Below.refl _ _)
    refine OwesAll.cons (k := 15) ?_ ?_
    · intro o ho a wx hS hold hdep K hK
      simp only [List.getElem?_toArray, List.getElem?_cons_succ, List.getElem?_cons_zero, Option.some.injEq] at ho
      subst ho
      have HK := Lib.hid hK
      clear hK
      have d39 : a.tmps.getD 39 undef = .pointer (some ⟨w.heap.size, 3, none⟩) := dep_at hdep 14 rfl rfl (by kernel_rfl)
      clear hold hdep
      rw [Array.getD_eq_getD_getElem?] at d39
      rw [if_pos (by rfl)]
      have c0 : wx.cell? ⟨w.heap.size, 3, none⟩ = some (.slice ac lc cc) := (hS.cell (p := ⟨w.heap.size, 3, none⟩) lt0).trans ca3
      go_simp
      exact HK.out _ _ rfl (Below.refl _ _)
    refine OwesAll.cons (k := 16) ?_ ?_
    · intro o ho a wx hS hold hdep K hK
      simp only [List.getElem?_toArray, List.getElem?_cons_succ, List.getElem?_cons_zero, Option.some.injEq] at ho
      subst ho
      have HK := Lib.hid hK
      clear hK
      have d5 : a.tmps.getD 5 undef = .pointer (some ⟨w.heap.size + 1, 0, none⟩) := hold 5 (unset_of (by kernel_rfl))
      clear hold hdep
      rw [Array.getD_eq_getD_getElem?] at d5
      rw [if_pos (by rfl)]
      go_simp
      exact HK.out _ _ rfl (Below.refl _ _)
    refine OwesAll.cons (k := 17) ?_ ?_
    · intro o ho a wx hS hold hdep K hK
      simp only [List.getElem?_toArray, List.getElem?_cons_succ, List.getElem?_cons_zero, Option.some.injEq] at ho
      subst ho
      have HK := Lib.hid hK
      clear hK
      have d41 : a.tmps.getD 41 undef = .pointer (some ⟨w.heap.size + 1, 3, none⟩) := dep_at hdep 16 rfl rfl (by kernel_rfl)
      clear hold hdep
      rw [Array.getD_eq_getD_getElem?] at d41
      rw [if_pos (by rfl)]
      have c0 : wx.cell? ⟨w.heap.size + 1, 3, none⟩ = some (.slice bc mc dc) := (hS.cell (p := ⟨w.heap.size + 1, 3, none⟩) lt1).trans cb3
      go_simp
      exact HK.out _ _ rfl (Below.refl _ _)
    refine OwesAll.cons (k := 18) ?_ ?_
    · intro o ho a wx hS hold hdep K hK
      simp only [List.getElem?_toArray, List.getElem?_cons_succ, List.getElem?_cons_zero, Option.some.injEq] at ho
      subst ho
      have HK := Lib.hid hK
      clear hK
      have d40 : a.tmps.getD 40 undef = .slice ac lc cc := dep_at hdep 15 rfl rfl (by kernel_rfl)
      have d42 : a.tmps.getD 42 undef = .slice bc mc dc := dep_at hdep 17 rfl rfl (by kernel_rfl)
      clear hold hdep
      rw [Array.getD_eq_getD_getElem?] at d40
      rw [Array.getD_eq_getD_getElem?] at d42
      rw [if_pos (by rfl)]
      go_simp
      exact HK.out _ _ ⟨_, rfl, Rd.made _ _ _⟩ (below_made _ _)
    refine OwesAll.cons (k := 19) ?_ ?_
    · intro o ho a wx hS hold hdep K hK
      simp only [List.getElem?_toArray, List.getElem?_cons_succ, List.getElem?_cons_zero, Option.some.injEq] at ho
      subst ho
      have HK := Lib.hid hK
      clear hK
      obtain ⟨a43, d43, r43⟩ : ∃ a', a.tmps.getD 43 undef = .slice a' 2 2 ∧ Rd wx a' [.slice ac lc cc, .slice bc mc dc] := dep_at hdep 18 rfl rfl (by kernel_rfl)
      clear hold hdep
      rw [Array.getD_eq_getD_getElem?] at d43
      rw [if_pos (by rfl)]
      have CA := C3.out wx a43 (chain B2.out hS) r43
      clear r43
      go_simp
      go_wp2_with fail
      refine CA.mono ?_
      rintro e w9 ⟨⟨v9, rfl, h9⟩, b9⟩
      exact HK.out _ _ (out_rdFV h9 hS.size) b9
    refine OwesAll.cons (k := 20) ?_ ?_
    · intro o ho a wx hS hold hdep K hK
      simp only [List.getElem?_toArray, List.getElem?_cons_succ, List.getElem?_cons_zero, Option.some.injEq] at ho
      subst ho
      have HK := Lib.hid hK
      clear hK
      have d26 : a.tmps.getD 26 undef = .bool false := dep_at hdep 1 rfl rfl (by kernel_rfl)
      obtain ⟨a32, c32, d32, r32, l32, m32, n32⟩ : ∃ a' c', a.tmps.getD 32 undef = .slice a' X1.length c' ∧ Rd wx a' X1 ∧ X1.length ≤ c' ∧ c' ≤ maxLen ∧ ∀ x, a' = some x → w2.heap.size ≤ x.block := dep_at hdep 7 rfl rfl (by kernel_rfl)
      obtain ⟨a38, c38, d38, r38, l38, m38, n38⟩ : ∃ a' c', a.tmps.getD 38 undef = .slice a' X2.length c' ∧ Rd wx a' X2 ∧ X2.length ≤ c' ∧ c' ≤ maxLen ∧ ∀ x, a' = some x → w2.heap.size ≤ x.block := dep_at hdep 13 rfl rfl (by kernel_rfl)
      obtain ⟨a44, c44, d44, r44, l44, m44, n44⟩ : ∃ a' c', a.tmps.getD 44 undef = .slice a' X3.length c' ∧ Rd wx a' X3 ∧ X3.length ≤ c' ∧ c' ≤ maxLen ∧ ∀ x, a' = some x → w2.heap.size ≤ x.block := dep_at hdep 19 rfl rfl (by kernel_rfl)
      clear hold hdep
      rw [Array.getD_eq_getD_getElem?] at d26
      rw [Array.getD_eq_getD_getElem?] at d32
      rw [Array.getD_eq_getD_getElem?] at d38
      rw [Array.getD_eq_getD_getElem?] at d44
      rw [if_pos (by rfl)]
      go_simp
      exact HK.out _ _ ⟨_, _, _, _, _, _, rfl, r32, r38, r44, l32, m32, l38, m38, l44, m44⟩ (Below.refl _ _)
    refine OwesAll.cons (k := 21) ?_ ?_
    · intro o ho a wx hS hold hdep K hK
      simp only [List.getElem?_toArray, List.getElem?_cons_succ, List.getElem?_cons_zero, Option.some.injEq] at ho
      subst ho
      have HK := Lib.hid hK
      clear hK
      clear hold hdep
      rw [if_pos (by rfl)]
      go_simp
      exact HK.out _ _ ⟨_, rfl, hS.size, heap_alloc_new _ _⟩ (below_made _ _)
    refine OwesAll.skip (f := 22) ?_
    exact OwesAll.nil
  case ends =>
    intro a wx hS hsz hdf hold hdone
    simp only [List.getElem?_toArray, List.getElem?_cons_succ, List.getElem?_cons_zero, List.getElem?_nil]
    have hsz' : a.tmps.size = 63 := hsz
    have hdf' : a.defers = [] := hdf
    have ha := act_lit hsz' hdf'
    have e0 := hold 0 (unset_of (by kernel_rfl))
    have e1 := hold 1 (unset_of (by kernel_rfl))
    have e2 := hold 2 (unset_of (by kernel_rfl))
    have e3 := hold 3 (unset_of (by kernel_rfl))
    have e4 := hold 4 (unset_of (by kernel_rfl))
    have e5 := hold 5 (unset_of (by kernel_rfl))
    have e6 := hold 6 (unset_of (by kernel_rfl))
    have e7 := hold 7 (unset_of (by kernel_rfl))
    have e9 := hold 9 (unset_of (by kernel_rfl))
    have e10 := hold 10 (unset_of (by kernel_rfl))
    have e11 := hold 11 (unset_of (by kernel_rfl))
    have e12 := hold 12 (unset_of (by kernel_rfl))
    have e13 := hold 13 (unset_of (by kernel_rfl))
    have e14 := hold 14 (unset_of (by kernel_rfl))
    have e15 := hold 15 (unset_of (by kernel_rfl))
    have e16 := hold 16 (unset_of (by kernel_rfl))
    have e17 := hold 17 (unset_of (by kernel_rfl))
    have e18 := hold 18 (unset_of (by kernel_rfl))
    have e19 := hold 19 (unset_of (by kernel_rfl))
    have e20 := hold 20 (unset_of (by kernel_rfl))
    have e21 := hold 21 (unset_of (by kernel_rfl))
    have e22 := hold 22 (unset_of (by kernel_rfl))
    have e23 := hold 23 (unset_of (by kernel_rfl))
    have e24 := hold 24 (unset_of (by kernel_rfl))
    have e46 := hold 46 (unset_of (by kernel_rfl))
    have e47 := hold 47 (unset_of (by kernel_rfl))
    have e48 := hold 48 (unset_of (by kernel_rfl))
    have e49 := hold 49 (unset_of (by kernel_rfl))
    have e50 := hold 50 (unset_of (by kernel_rfl))
    have e51 := hold 51 (unset_of (by kernel_rfl))
    have e52 := hold 52 (unset_of (by kernel_rfl))
    have e53 := hold 53 (unset_of (by kernel_rfl))
    have e54 := hold 54 (unset_of (by kernel_rfl))
    have e55 := hold 55 (unset_of (by kernel_rfl))
    have e56 := hold 56 (unset_of (by kernel_rfl))
    have e57 := hold 57 (unset_of (by kernel_rfl))
    have e58 := hold 58 (unset_of (by kernel_rfl))
    have e59 := hold 59 (unset_of (by kernel_rfl))
    have e60 := hold 60 (unset_of (by kernel_rfl))
    have e61 := hold 61 (unset_of (by kernel_rfl))
    have e62 := hold 62 (unset_of (by kernel_rfl))
    obtain ⟨xa, xb, xc, ja, jb, jc, d45, q1, q2, q3, q4, q5, q6, q7, q8, q9⟩ : ∃ xa xb xc ja jb jc, a.tmps.getD 45 undef = .agg #[.bool false, .slice xa X1.length ja, .slice xb X2.length jb, .slice xc X3.length jc] ∧ Rd wx xa X1 ∧ Rd wx xb X2 ∧ Rd wx xc X3 ∧ X1.length ≤ ja ∧ ja ≤ maxLen ∧ X2.length ≤ jb ∧ jb ≤ maxLen ∧ X3.length ≤ jc ∧ jc ≤ maxLen := hdone 20 _ 45 rfl (by decide) rfl
    obtain ⟨r, d8, hr1, hr2⟩ : ∃ r, a.tmps.getD 8 undef = .pointer (some ⟨r, 0, none⟩) ∧ w2.heap.size ≤ r ∧ wx.heap[r]? = some (.cells #[.bool false, .slice none 0 0, .slice none 0 0, .slice none 0 0] 26) := hdone 21 _ 8 rfl (by decide) rfl
    clear hold hdone hsz hdf hsz' hdf'
    simp only [Array.getD_eq_getD_getElem?, List.getElem?_toArray, List.getElem?_cons_succ, List.getElem?_cons_zero, Option.getD_some] at e0 e1 e2 e3 e4 e5 e6 e7 e9 e10 e11 e12 e13 e14 e15 e16 e17 e18 e19 e20 e21 e22 e23 e24 e46 e47 e48 e49 e50 e51 e52 e53 e54 e55 e56 e57 e58 e59 e60 e61 e62 d45 d8
    simp only [show (List.range 63) = [0, 1, 2, 3, 4, 5, 6, 7, 8, 9, 10, 11, 12, 13, 14, 15, 16, 17, 18, 19, 20, 21, 22, 23, 24, 25, 26, 27, 28, 29, 30, 31, 32, 33, 34, 35, 36, 37, 38, 39, 40, 41, 42, 43, 44, 45, 46, 47, 48, 49, 50, 51, 52, 53, 54, 55, 56, 57, 58, 59, 60, 61, 62] from rfl, List.map_cons, List.map_nil] at ha
    simp only [e0, e1, e2, e3, e4, e5, e6, e7, e9, e10, e11, e12, e13, e14, e15, e16, e17, e18, e19, e20, e21, e22, e23, e24, e46, e47, e48, e49, e50, e51, e52, e53, e54, e55, e56, e57, e58, e59, e60, e61, e62, d45, d8] at ha
    clear e0 e1 e2 e3 e4 e5 e6 e7 e9 e10 e11 e12 e13 e14 e15 e16 e17 e18 e19 e20 e21 e22 e23 e24 e46 e47 e48 e49 e50 e51 e52 e53 e54 e55 e56 e57 e58 e59 e60 e61 e62 d45 d8
    generalize a.tmps[25]?.getD undef = u25 at ha
    generalize a.tmps[26]?.getD undef = u26 at ha
    generalize a.tmps[27]?.getD undef = u27 at ha
    generalize a.tmps[28]?.getD undef = u28 at ha
    generalize a.tmps[29]?.getD undef = u29 at ha
    generalize a.tmps[30]?.getD undef = u30 at ha
    generalize a.tmps[31]?.getD undef = u31 at ha
    generalize a.tmps[32]?.getD undef = u32 at ha
    generalize a.tmps[33]?.getD undef = u33 at ha
    generalize a.tmps[34]?.getD undef = u34 at ha
    generalize a.tmps[35]?.getD undef = u35 at ha
    generalize a.tmps[36]?.getD undef = u36 at ha
    generalize a.tmps[37]?.getD undef = u37 at ha
    generalize a.tmps[38]?.getD undef = u38 at ha
    generalize a.tmps[39]?.getD undef = u39 at ha
    generalize a.tmps[40]?.getD undef = u40 at ha
    generalize a.tmps[41]?.getD undef = u41 at ha
    generalize a.tmps[42]?.getD undef = u42 at ha
    generalize a.tmps[43]?.getD undef = u43 at ha
    generalize a.tmps[44]?.getD undef = u44 at ha
    subst ha
    intro K hK
    have HK := Lib.hid hK
    clear hK
    have rr0 : r ≠ w.heap.size := by omega
    have rr1 : r ≠ w.heap.size + 1 := by omega
    have rr2 : r ≠ w.heap.size + 2 := by omega
    have XR : ((((wx.setCell ⟨r, 0, none⟩ (.bool false)).setCell ⟨r, 1, none⟩ (.slice xa X1.length ja)).setCell ⟨r, 2, none⟩ (.slice xb X2.length jb)).setCell ⟨r, 3, none⟩ (.slice xc X3.length jc)).heap[r]? = some (.cells #[.bool false, .slice xa X1.length ja, .slice xb X2.length jb, .slice xc X3.length jc] 26) := by
      rw [heap_setCell_same _ _ 3 _ _ _ (heap_setCell_same _ _ 2 _ _ _ (heap_setCell_same _ _ 1 _ _ _ (heap_setCell_same _ _ 0 _ _ _ hr2)))]
      rfl
    have hset : ∀ g, g ≠ r → ((((wx.setCell ⟨r, 0, none⟩ (.bool false)).setCell ⟨r, 1, none⟩ (.slice xa X1.length ja)).setCell ⟨r, 2, none⟩ (.slice xb X2.length jb)).setCell ⟨r, 3, none⟩ (.slice xc X3.length jc)).heap[g]? = wx.heap[g]? := fun g hg => by
      rw [Below.heap_setCell _ _ _ _ hg, Below.heap_setCell _ _ _ _ hg, Below.heap_setCell _ _ _ _ hg, Below.heap_setCell _ _ _ _ hg]
    have Q1 : Rd ((((wx.setCell ⟨r, 0, none⟩ (.bool false)).setCell ⟨r, 1, none⟩ (.slice xa X1.length ja)).setCell ⟨r, 2, none⟩ (.slice xb X2.length jb)).setCell ⟨r, 3, none⟩ (.slice xc X3.length jc)) xa X1 := q1.set4B SC.out.1 hr2 zero_not _ _ _ _
    have Q2 : Rd ((((wx.setCell ⟨r, 0, none⟩ (.bool false)).setCell ⟨r, 1, none⟩ (.slice xa X1.length ja)).setCell ⟨r, 2, none⟩ (.slice xb X2.length jb)).setCell ⟨r, 3, none⟩ (.slice xc X3.length jc)) xb X2 := q2.set4B SC.out.2.1 hr2 zero_not _ _ _ _
    have Q3 : Rd ((((wx.setCell ⟨r, 0, none⟩ (.bool false)).setCell ⟨r, 1, none⟩ (.slice xa X1.length ja)).setCell ⟨r, 2, none⟩ (.slice xb X2.length jb)).setCell ⟨r, 3, none⟩ (.slice xc X3.length jc)) xc X3 := q3.set4B SC.out.2.2.1 hr2 zero_not _ _ _ _
    have BZ : Below w.heap.size w ((((wx.setCell ⟨r, 0, none⟩ (.bool false)).setCell ⟨r, 1, none⟩ (.slice xa X1.length ja)).setCell ⟨r, 2, none⟩ (.slice xb X2.length jb)).setCell ⟨r, 3, none⟩ (.slice xc X3.length jc)) := ((((chain B2.out hS).setCell (Nat.le_trans (Nat.le_of_lt lt0) hr1) _).setCell (Nat.le_trans (Nat.le_of_lt lt0) hr1) _).setCell (Nat.le_trans (Nat.le_of_lt lt0) hr1) _).setCell (Nat.le_trans (Nat.le_of_lt lt0) hr1) _
    have YA : ((((wx.setCell ⟨r, 0, none⟩ (.bool false)).setCell ⟨r, 1, none⟩ (.slice xa X1.length ja)).setCell ⟨r, 2, none⟩ (.slice xb X2.length jb)).setCell ⟨r, 3, none⟩ (.slice xc X3.length jc)).heap[w.heap.size]? = some (.cells #[.bool false, .slice ak lk ck, .slice av lv cv, .slice ac lc cc] 26) := by rw [hset _ (Ne.symm rr0)]; exact kept XA2.out hS
    have YB : ((((wx.setCell ⟨r, 0, none⟩ (.bool false)).setCell ⟨r, 1, none⟩ (.slice xa X1.length ja)).setCell ⟨r, 2, none⟩ (.slice xb X2.length jb)).setCell ⟨r, 3, none⟩ (.slice xc X3.length jc)).heap[w.heap.size + 1]? = some (.cells #[.bool false, .slice bk mk dk, .slice bv mv dv, .slice bc mc dc] 26) := by rw [hset _ (Ne.symm rr1)]; exact kept XB2.out hS
    have YZ : ((((wx.setCell ⟨r, 0, none⟩ (.bool false)).setCell ⟨r, 1, none⟩ (.slice xa X1.length ja)).setCell ⟨r, 2, none⟩ (.slice xb X2.length jb)).setCell ⟨r, 3, none⟩ (.slice xc X3.length jc)).heap[w.heap.size + 2]? = some (.cells #[.bool false, .slice none 0 0, .slice none 0 0, .slice none 0 0] 26) := by rw [hset _ (Ne.symm rr2)]; exact kept XZ2.out hS
    have y0 : wx.cell? ⟨r, 0, none⟩ = some (.bool false) := by rw [Go.Joins.cell_of_block hr2]; rfl
    have y1 : wx.cell? ⟨r, 1, none⟩ = some (.slice none 0 0) := by rw [Go.Joins.cell_of_block hr2]; rfl
    have y2 : wx.cell? ⟨r, 2, none⟩ = some (.slice none 0 0) := by rw [Go.Joins.cell_of_block hr2]; rfl
    have y3 : wx.cell? ⟨r, 3, none⟩ = some (.slice none 0 0) := by rw [Go.Joins.cell_of_block hr2]; rfl
    have f0 := Go.Joins.unfrozen_of_block hr2 0
    have f1 := Go.Joins.unfrozen_of_block hr2 1
    have f2 := Go.Joins.unfrozen_of_block hr2 2
    have f3 := Go.Joins.unfrozen_of_block hr2 3
    clear ca0 ca1 ca2 ca3 cb0 cb1 cb2 cb3 q1 q2 q3 hset C1 C2 C3 XA2 XB2 XZ2 B2 hS hr2
    have HR1 := Lib.hid hr1
    have RR0 := Lib.hid rr0
    have RR1 := Lib.hid rr1
    have RR2 := Lib.hid rr2
    have LT0 := Lib.hid lt0
    have q4H := Lib.hid (And.intro q4 (And.intro q5 (And.intro q6 (And.intro q7 (And.intro q8 q9)))))
    clear hr1 rr0 rr1 rr2 lt0 lt1 lt2 q4 q5 q6 q7 q8 q9
    rw [if_pos (by rfl)]
    go_simp
    refine HK.out _ _ ?_
    clear y0 y1 y2 y3 f0 f1 f2 f3 HK K
    obtain ⟨wz, hwz⟩ : ∃ wz, ((((wx.setCell ⟨r, 0, none⟩ (.bool false)).setCell ⟨r, 1, none⟩ (.slice xa X1.length ja)).setCell ⟨r, 2, none⟩ (.slice xb X2.length jb)).setCell ⟨r, 3, none⟩ (.slice xc X3.length jc)) = wz := ⟨_, rfl⟩
    rw [hwz] at XR Q1 Q2 Q3 BZ YA YB YZ ⊢
    clear hwz
    have XRH := Lib.hid XR
    have Q1H := Lib.hid Q1
    have Q2H := Lib.hid Q2
    have Q3H := Lib.hid Q3
    have BZH := Lib.hid BZ
    have YAH := Lib.hid YA
    have YBH := Lib.hid YB
    have YZH := Lib.hid YZ
    clear XR Q1 Q2 Q3 BZ YA YB YZ
    have a0 : wz.cell? ⟨w.heap.size, 0, none⟩ = some (.bool false) := by rw [Go.Joins.cell_of_block YAH.out]; rfl
    have a1 : wz.cell? ⟨w.heap.size, 1, none⟩ = some (.slice ak lk ck) := by rw [Go.Joins.cell_of_block YAH.out]; rfl
    have a2 : wz.cell? ⟨w.heap.size, 2, none⟩ = some (.slice av lv cv) := by rw [Go.Joins.cell_of_block YAH.out]; rfl
    have a3 : wz.cell? ⟨w.heap.size, 3, none⟩ = some (.slice ac lc cc) := by rw [Go.Joins.cell_of_block YAH.out]; rfl
    have b0 : wz.cell? ⟨w.heap.size + 1, 0, none⟩ = some (.bool false) := by rw [Go.Joins.cell_of_block YBH.out]; rfl
    have b1 : wz.cell? ⟨w.heap.size + 1, 1, none⟩ = some (.slice bk mk dk) := by rw [Go.Joins.cell_of_block YBH.out]; rfl
    have b2 : wz.cell? ⟨w.heap.size + 1, 2, none⟩ = some (.slice bv mv dv) := by rw [Go.Joins.cell_of_block YBH.out]; rfl
    have b3 : wz.cell? ⟨w.heap.size + 1, 3, none⟩ = some (.slice bc mc dc) := by rw [Go.Joins.cell_of_block YBH.out]; rfl
    have ltb : w.heap.size + 1 < wz.heap.size := (Array.getElem?_eq_some_iff.1 YBH.out).1
    have b1' : (wz.alloc (.cells #[.int .u64 mid] 27)).cell? ⟨w.heap.size + 1, 1, none⟩ = some (.slice bk mk dk) := (World.cell?_alloc_lt _ _ _ ltb).trans b1
    go_wp2_with fail
    clear b1' ltb
    have s1 : (wz.alloc (.cells #[.int .u64 mid] 27)).heap.size = wz.heap.size + 1 := by simp
    have hR1 : Rd ((wz.alloc (.cells #[.int .u64 mid] 27)).alloc (.cells #[.slice ak lk ck, .slice (some ⟨wz.heap.size, 0, none⟩) 1 1, .slice bk mk dk] 22)) (some ⟨wz.heap.size, 0, none⟩) [.int .u64 mid] := (Rd.made wz #[.int .u64 mid] 27).below (below_made _ _)
    have hR2 : Rd ((wz.alloc (.cells #[.int .u64 mid] 27)).alloc (.cells #[.slice ak lk ck, .slice (some ⟨wz.heap.size, 0, none⟩) 1 1, .slice bk mk dk] 22)) (some ⟨wz.heap.size + 1, 0, none⟩) [.slice ak lk ck, .slice (some ⟨wz.heap.size, 0, none⟩) 1 1, .slice bk mk dk] := by
      have h9 := Rd.made (wz.alloc (.cells #[.int .u64 mid] 27)) #[.slice ak lk ck, .slice (some ⟨wz.heap.size, 0, none⟩) 1 1, .slice bk mk dk] 22
      rw [s1] at h9
      exact h9
    have bq : Below wz.heap.size wz ((wz.alloc (.cells #[.int .u64 mid] 27)).alloc (.cells #[.slice ak lk ck, .slice (some ⟨wz.heap.size, 0, none⟩) 1 1, .slice bk mk dk] 22)) := ((Below.refl _ _).alloc (Nat.le_refl _) _).alloc (by simp) _
    clear s1 a0 a1 a2 a3 b0 b1 b2 b3
    obtain ⟨wq, hwq⟩ : ∃ wq, ((wz.alloc (.cells #[.int .u64 mid] 27)).alloc (.cells #[.slice ak lk ck, .slice (some ⟨wz.heap.size, 0, none⟩) 1 1, .slice bk mk dk] 22)) = wq := ⟨_, rfl⟩
    rw [hwq] at hR1 hR2 bq ⊢
    clear hwq
    refine (C4.out _ _ _ (chain BZH.out bq) hR2 hR1).mono ?_
    rintro e v3 ⟨⟨v9, rfl, h9⟩, b9⟩
    obtain ⟨xd, jd, rfl, q10, q11, q12⟩ := Rd.own h9
    have b10 := chain bq b9
    have XR3 := kept XRH.out b10
    have hrl : r < wz.heap.size := (Array.getElem?_eq_some_iff.1 XRH.out).1
    have q13 := q10
    have Y0 := kept YZH.out b10
    have P2 := Q2H.out.below b10
    have P3 := Q3H.out.below b10
    have B9 := chain BZH.out b10
    clear h9 b9 bq b10 hR1 hR2 C4
    have XS : (v3.setCell ⟨r, 1, none⟩ (.slice xd X4.length jd)).heap[r]? = some (.cells #[.bool false, .slice xd X4.length jd, .slice xb X2.length jb, .slice xc X3.length jc] 26) := by
      rw [heap_setCell_same _ _ 1 _ _ _ XR3]
      rfl
    have YS : (v3.setCell ⟨r, 1, none⟩ (.slice xd X4.length jd)).heap[w.heap.size + 2]? = some (.cells #[.bool false, .slice none 0 0, .slice none 0 0, .slice none 0 0] 26) := by
      rw [Below.heap_setCell _ _ _ _ (Ne.symm RR2.out)]; exact Y0
    have P1 : Rd (v3.setCell ⟨r, 1, none⟩ (.slice xd X4.length jd)) xd X4 := q10.set1B SC.out.2.2.2 XR3 (node_not _ (_, _, _) (_, _, _) (_, _, _)) _ _
    have P2' : Rd (v3.setCell ⟨r, 1, none⟩ (.slice xd X4.length jd)) xb X2 := P2.set1B SC.out.2.1 XR3 (node_not _ (_, _, _) (_, _, _) (_, _, _)) _ _
    have P3' : Rd (v3.setCell ⟨r, 1, none⟩ (.slice xd X4.length jd)) xc X3 := P3.set1B SC.out.2.2.1 XR3 (node_not _ (_, _, _) (_, _, _) (_, _, _)) _ _
    have B9' : Below w.heap.size w (v3.setCell ⟨r, 1, none⟩ (.slice xd X4.length jd)) := B9.setCell (Nat.le_trans (Nat.le_of_lt LT0.out) HR1.out) _
    have y0 : v3.cell? ⟨r, 0, none⟩ = some (.bool false) := by rw [Go.Joins.cell_of_block XR3]; rfl
    have y1 : v3.cell? ⟨r, 1, none⟩ = some (.slice xa X1.length ja) := by rw [Go.Joins.cell_of_block XR3]; rfl
    have y2 : v3.cell? ⟨r, 2, none⟩ = some (.slice xb X2.length jb) := by rw [Go.Joins.cell_of_block XR3]; rfl
    have y3 : v3.cell? ⟨r, 3, none⟩ = some (.slice xc X3.length jc) := by rw [Go.Joins.cell_of_block XR3]; rfl
    have f1 := Go.Joins.unfrozen_of_block XR3 1
    have PH1 := Lib.hid P1
    have PH2 := Lib.hid P2'
    have PH3 := Lib.hid P3'
    have XSH := Lib.hid XS
    have YSH := Lib.hid YS
    have BSH := Lib.hid B9'
    have Q11 := Lib.hid q11
    have Q12 := Lib.hid q12
    clear P1 P2 P2' P3 P3' XS YS B9 B9' XR3 Y0 q10 q11 q12 q13 hrl XRH Q1H Q2H Q3H BZH YAH YBH YZH
    go_upto_region 6 with fail
    clear y0 y1 y2 y3 f1
    obtain ⟨ws, hws⟩ : ∃ ws, v3.setCell ⟨r, 1, none⟩ (.slice xd X4.length jd) = ws := ⟨_, rfl⟩
    rw [hws] at PH1 PH2 PH3 XSH YSH BSH ⊢
    clear hws
    have z0 : ws.cell? ⟨r, 0, none⟩ = some (.bool false) := by rw [Go.Joins.cell_of_block XSH.out]; rfl
    have z1 : ws.cell? ⟨r, 1, none⟩ = some (.slice xd X4.length jd) := by rw [Go.Joins.cell_of_block XSH.out]; rfl
    have z2 : ws.cell? ⟨r, 2, none⟩ = some (.slice xb X2.length jb) := by rw [Go.Joins.cell_of_block XSH.out]; rfl
    have z3 : ws.cell? ⟨r, 3, none⟩ = some (.slice xc X3.length jc) := by rw [Go.Joins.cell_of_block XSH.out]; rfl
    go_wp2_with fail
    refine (SZ.out _ _ _ _ _ _ _ PH1.out PH2.out PH3.out Q11.out Q12.out q4H.out.2.2.1 q4H.out.2.2.2.1 q4H.out.2.2.2.2.1 q4H.out.2.2.2.2.2).mono ?_
    rintro e v5 ⟨rfl, b5⟩
    have XR5 := kept XSH.out b5
    have YZ5 := kept YSH.out b5
    have Q15 := PH1.out.below b5
    have Q25 := PH2.out.below b5
    have Q35 := PH3.out.below b5
    have B5 := chain BSH.out b5
    clear b5
    have r0 : v5.cell? ⟨r, 0, none⟩ = some (.bool false) := by rw [Go.Joins.cell_of_block XR5]; rfl
    have r1 : v5.cell? ⟨r, 1, none⟩ = some (.slice xd X4.length jd) := by rw [Go.Joins.cell_of_block XR5]; rfl
    have r2 : v5.cell? ⟨r, 2, none⟩ = some (.slice xb X2.length jb) := by rw [Go.Joins.cell_of_block XR5]; rfl
    have r3 : v5.cell? ⟨r, 3, none⟩ = some (.slice xc X3.length jc) := by rw [Go.Joins.cell_of_block XR5]; rfl
    have y0 : v5.cell? ⟨w.heap.size + 2, 0, none⟩ = some (.bool false) := by rw [Go.Joins.cell_of_block YZ5]; rfl
    have y1 : v5.cell? ⟨w.heap.size + 2, 1, none⟩ = some (.slice none 0 0) := by rw [Go.Joins.cell_of_block YZ5]; rfl
    have y2 : v5.cell? ⟨w.heap.size + 2, 2, none⟩ = some (.slice none 0 0) := by rw [Go.Joins.cell_of_block YZ5]; rfl
    have y3 : v5.cell? ⟨w.heap.size + 2, 3, none⟩ = some (.slice none 0 0) := by rw [Go.Joins.cell_of_block YZ5]; rfl
    have f0 := Go.Joins.unfrozen_of_block YZ5 0
    have f1 := Go.Joins.unfrozen_of_block YZ5 1
    have f2 := Go.Joins.unfrozen_of_block YZ5 2
    have f3 := Go.Joins.unfrozen_of_block YZ5 3
    by_cases hz : z ≤ 240
    · have hzi : ¬ (240 : Int) < (z : Int) := by omega
      have hzd : decide (z ≤ 240) = true := by simpa using hz
      have HZD := Lib.hid hzd
      clear hzd hz
      have XF : ((((v5.setCell ⟨w.heap.size + 2, 0, none⟩ (.bool false)).setCell ⟨w.heap.size + 2, 1, none⟩ (.slice xd X4.length jd)).setCell ⟨w.heap.size + 2, 2, none⟩ (.slice xb X2.length jb)).setCell ⟨w.heap.size + 2, 3, none⟩ (.slice xc X3.length jc)).heap[w.heap.size + 2]? = some (.cells #[.bool false, .slice xd X4.length jd, .slice xb X2.length jb, .slice xc X3.length jc] 26) := by
        rw [heap_setCell_same _ _ 3 _ _ _ (heap_setCell_same _ _ 2 _ _ _ (heap_setCell_same _ _ 1 _ _ _ (heap_setCell_same _ _ 0 _ _ _ YZ5)))]
        rfl
      have FB : Below w.heap.size w ((((v5.setCell ⟨w.heap.size + 2, 0, none⟩ (.bool false)).setCell ⟨w.heap.size + 2, 1, none⟩ (.slice xd X4.length jd)).setCell ⟨w.heap.size + 2, 2, none⟩ (.slice xb X2.length jb)).setCell ⟨w.heap.size + 2, 3, none⟩ (.slice xc X3.length jc)) := (((B5.setCell (Nat.le_add_right _ _) _).setCell (Nat.le_add_right _ _) _).setCell (Nat.le_add_right _ _) _).setCell (Nat.le_add_right _ _) _
      have F1 : Rd ((((v5.setCell ⟨w.heap.size + 2, 0, none⟩ (.bool false)).setCell ⟨w.heap.size + 2, 1, none⟩ (.slice xd X4.length jd)).setCell ⟨w.heap.size + 2, 2, none⟩ (.slice xb X2.length jb)).setCell ⟨w.heap.size + 2, 3, none⟩ (.slice xc X3.length jc)) xd X4 := Q15.set4B SC.out.2.2.2 YZ5 zero_not _ _ _ _
      have F2 : Rd ((((v5.setCell ⟨w.heap.size + 2, 0, none⟩ (.bool false)).setCell ⟨w.heap.size + 2, 1, none⟩ (.slice xd X4.length jd)).setCell ⟨w.heap.size + 2, 2, none⟩ (.slice xb X2.length jb)).setCell ⟨w.heap.size + 2, 3, none⟩ (.slice xc X3.length jc)) xb X2 := Q25.set4B SC.out.2.1 YZ5 zero_not _ _ _ _
      have F3 : Rd ((((v5.setCell ⟨w.heap.size + 2, 0, none⟩ (.bool false)).setCell ⟨w.heap.size + 2, 1, none⟩ (.slice xd X4.length jd)).setCell ⟨w.heap.size + 2, 2, none⟩ (.slice xb X2.length jb)).setCell ⟨w.heap.size + 2, 3, none⟩ (.slice xc X3.length jc)) xc X3 := Q35.set4B SC.out.2.2.1 YZ5 zero_not _ _ _ _
      clear XR5 YZ5 Q15 Q25 Q35 B5
      go_wp2_with fail
      obtain ⟨wf, hwf⟩ : ∃ wf, ((((v5.setCell ⟨w.heap.size + 2, 0, none⟩ (.bool false)).setCell ⟨w.heap.size + 2, 1, none⟩ (.slice xd X4.length jd)).setCell ⟨w.heap.size + 2, 2, none⟩ (.slice xb X2.length jb)).setCell ⟨w.heap.size + 2, 3, none⟩ (.slice xc X3.length jc)) = wf := ⟨_, rfl⟩
      rw [hwf] at XF FB F1 F2 F3 ⊢
      clear hwf
      have g0 : wf.cell? ⟨w.heap.size + 2, 0, none⟩ = some (.bool false) := by rw [Go.Joins.cell_of_block XF]; rfl
      have g1 : wf.cell? ⟨w.heap.size + 2, 1, none⟩ = some (.slice xd X4.length jd) := by rw [Go.Joins.cell_of_block XF]; rfl
      have g2 : wf.cell? ⟨w.heap.size + 2, 2, none⟩ = some (.slice xb X2.length jb) := by rw [Go.Joins.cell_of_block XF]; rfl
      have g3 : wf.cell? ⟨w.heap.size + 2, 3, none⟩ = some (.slice xc X3.length jc) := by rw [Go.Joins.cell_of_block XF]; rfl
      have FIN : JOut false X4 X2 X3 (decide (z ≤ 240)) (.returned (.tuple #[.agg #[.bool false, .slice xd X4.length jd, .slice xb X2.length jb, .slice xc X3.length jc], .bool true])) wf := by
        unfold JOut
        rw [HZD.out]
        exact ⟨_, _, _, _, _, _, rfl, F1, F2, F3, Q11.out, Q12.out, q4H.out.2.2.1, q4H.out.2.2.2.1, q4H.out.2.2.2.2.1, q4H.out.2.2.2.2.2⟩
      exact bodyPost_ret (v := .tuple #[.agg #[.bool false, .slice xd X4.length jd, .slice xb X2.length jb, .slice xc X3.length jc], .bool true]) (by simp [results, Try.results26, go_sem, g0, g1, g2, g3]) rfl ⟨FIN, FB⟩
    · have hzi : (240 : Int) < (z : Int) := by omega
      have hzd : decide (z ≤ 240) = false := by simpa using hz
      have HZD := Lib.hid hzd
      clear hzd hz
      have XF : ((((v5.setCell ⟨w.heap.size + 2, 0, none⟩ (.bool false)).setCell ⟨w.heap.size + 2, 1, none⟩ (.slice none 0 0)).setCell ⟨w.heap.size + 2, 2, none⟩ (.slice none 0 0)).setCell ⟨w.heap.size + 2, 3, none⟩ (.slice none 0 0)).heap[w.heap.size + 2]? = some (.cells #[.bool false, .slice none 0 0, .slice none 0 0, .slice none 0 0] 26) := by
        rw [heap_setCell_same _ _ 3 _ _ _ (heap_setCell_same _ _ 2 _ _ _ (heap_setCell_same _ _ 1 _ _ _ (heap_setCell_same _ _ 0 _ _ _ YZ5)))]
        rfl
      have FB : Below w.heap.size w ((((v5.setCell ⟨w.heap.size + 2, 0, none⟩ (.bool false)).setCell ⟨w.heap.size + 2, 1, none⟩ (.slice none 0 0)).setCell ⟨w.heap.size + 2, 2, none⟩ (.slice none 0 0)).setCell ⟨w.heap.size + 2, 3, none⟩ (.slice none 0 0)) := (((B5.setCell (Nat.le_add_right _ _) _).setCell (Nat.le_add_right _ _) _).setCell (Nat.le_add_right _ _) _).setCell (Nat.le_add_right _ _) _
      clear XR5 YZ5 Q15 Q25 Q35 B5
      go_wp2_with fail
      obtain ⟨wf, hwf⟩ : ∃ wf, ((((v5.setCell ⟨w.heap.size + 2, 0, none⟩ (.bool false)).setCell ⟨w.heap.size + 2, 1, none⟩ (.slice none 0 0)).setCell ⟨w.heap.size + 2, 2, none⟩ (.slice none 0 0)).setCell ⟨w.heap.size + 2, 3, none⟩ (.slice none 0 0)) = wf := ⟨_, rfl⟩
      rw [hwf] at XF FB ⊢
      clear hwf
      have g0 : wf.cell? ⟨w.heap.size + 2, 0, none⟩ = some (.bool false) := by rw [Go.Joins.cell_of_block XF]; rfl
      have g1 : wf.cell? ⟨w.heap.size + 2, 1, none⟩ = some (.slice none 0 0) := by rw [Go.Joins.cell_of_block XF]; rfl
      have g2 : wf.cell? ⟨w.heap.size + 2, 2, none⟩ = some (.slice none 0 0) := by rw [Go.Joins.cell_of_block XF]; rfl
      have g3 : wf.cell? ⟨w.heap.size + 2, 3, none⟩ = some (.slice none 0 0) := by rw [Go.Joins.cell_of_block XF]; rfl
      have FIN : JOut false X4 X2 X3 (decide (z ≤ 240)) (.returned (.tuple #[.agg #[.bool false, .slice none 0 0, .slice none 0 0, .slice none 0 0], .bool false])) wf := by
        unfold JOut
        rw [HZD.out]
        exact rfl
      exact bodyPost_ret (v := .tuple #[.agg #[.bool false, .slice none 0 0, .slice none 0 0, .slice none 0 0], .bool false]) (by simp [results, Try.results26, go_sem, g0, g1, g2, g3]) rfl ⟨FIN, FB⟩
end Go.Proofs.Ytkdcoipbdkmieaa
