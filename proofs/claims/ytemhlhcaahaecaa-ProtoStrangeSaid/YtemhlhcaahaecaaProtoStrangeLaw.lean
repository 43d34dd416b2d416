/-
  Package bailiwicklaw21: ProtoStrange.
-/
import Derived.Test.YtemhlhcaahaecaaProtoStray
import Derived.Test.YtemhlhcaahaecaaProtoMade
import Derived.Test.YtemhlhcaahaecaaFlowKit
import Derived.Test.YtemhlhcaahaecaaBuf
import Derived.Test.YtemhlhcaahaecaaByRow
import Derived.IntWalk
namespace Go.Proofs.Ytemhlhcaahaecaa
open Go.RowKit
set_option linter.unusedVariables false
set_option linter.unusedSimpArgs false
/-- Twenty-nine bytes 0 of the call's own. -/
def zerosV : SP := ⟨fun v w => ∃ g, v = .slice (some ⟨g, 0, none⟩) 29 29 ∧ Byt 5 w g (List.replicate 29 0), fun _ _ _ ⟨g, h1, h2⟩ hb => ⟨g, h1, h2.below hb⟩⟩
def tenV (L : List Value) : SP := ⟨fun v w => ∃ a, v = .slice a 10 10 ∧ Rd w a L, fun _ _ _ ⟨a, h1, h2⟩ hb => ⟨a, h1, h2.below hb⟩⟩
theorem rgo_last (L : List Nat) : ∀ (c t : Nat) (p : Nat × Nat), rgo L c t = some p → p.2 = (L.getLast?).getD t := by
  induction L with
  | nil => intro c t p h; unfold rgo at h; simp at h; rw [← h]; rfl
  | cons a L ih =>
    intro c t p h
    unfold rgo at h
    split at h
    · cases h
    · have := ih _ _ _ h
      rw [this]
      cases L with
      | nil => rfl
      | cons b L => simp [List.getLast?_cons_cons, List.getLast?_cons]
theorem rs_last (l : List UInt8) : ∀ m, l = m ++ [46] → (rs l).getLast? = some 46 := by
  refine runes_ind (P := fun l => ∀ m, l = m ++ [46] → (rs l).getLast? = some 46) ?_ ?_ l
  · intro m h; simp at h
  · intro l hne ih m h
    rw [rs_step l hne]
    by_cases hd : l.drop (dW l) = []
    · rw [hd, rs_nil]
      have hw : l.length ≤ dW l := by simpa using hd
      have hmem : (46 : UInt8) ∈ l.take (dW l) := by rw [List.take_of_length_le hw, h]; simp
      rcases rune_bytes l hne with ⟨h1, h2, h3, h4⟩ | ⟨h1, h2⟩
      · have hlen : l.length ≤ 1 := by omega
        rw [h] at hlen
        simp at hlen
        subst hlen
        have : dR l = 46 := by rw [← h4, h]; rfl
        rw [this]
        rfl
      · have := h2 46 hmem
        exact absurd this (by decide)
    · have hlt : dW l < l.length := by
        rcases Nat.lt_or_ge (dW l) l.length with hx | hx
        · exact hx
        · exact absurd (List.drop_eq_nil_of_le hx) hd
      have h2 : l.drop (dW l) = m.drop (dW l) ++ [46] := by
        rw [h] at hlt ⊢
        generalize dW (m ++ [46]) = k at *
        simp at hlt
        rw [List.drop_append_of_le_length (by omega)]
      have := ih _ h2
      cases hr : rs (l.drop (dW l)) with
      | nil => rw [hr] at this; cases this
      | cons b L => rw [hr] at this; rw [List.getLast?_cons_cons]; exact this
theorem point_wrong (nm : ByteArray) : rightB (nm ++ ⟨#[46]⟩) = false := by
  cases h : rightB (nm ++ ⟨#[46]⟩) with
  | false => rfl
  | true =>
    exfalso
    unfold rightB at h
    rw [Bool.and_eq_true] at h
    have h2 := h.2
    cases hp : rgo (RS (nm ++ ⟨#[46]⟩) 0) 0 0 with
    | none => rw [hp] at h2; cases h2
    | some p =>
      rw [hp] at h2
      have h3 := rgo_last _ _ _ _ hp
      have h4 : (RS (nm ++ ⟨#[46]⟩) 0).getLast? = some 46 := by
        unfold RS
        rw [List.drop_zero]
        exact rs_last _ nm.data.toList (by simp)
      rw [h4] at h3
      obtain ⟨p1, p2⟩ := p
      simp at h3
      subst h3
      revert h2
      unfold rfin edgeR
      simp
set_option maxHeartbeats 400000 in
theorem right_wrong (s : ByteArray) (w : World) (hs : s.size ≤ 281474976710656) (h : rightB s = false) :
    Calls Try.prog 67 #[.string s] w fun e w' => e = .returned (.bool false) ∧ Below w.heap.size w w' := by
  by_cases h0 : s.size ≤ 140737488351232
  · exact right_is s false w h0 h
  · have he : s.toList.isEmpty = false := nonempty s (by omega)
    have hl : (32 : Int) < (s.size : Int) := by omega
    clear h h0 hs
    go_enter Try.func67, Try.ntmps67
    go_wp2_with fail
    go_ret
    exact ⟨rfl, Below.refl _ _⟩
set_option maxHeartbeats 1600000 in
set_option maxRecDepth 20000 in
theorem hello_right_wrong (nm : ByteArray) (w : World) (hs : nm.size ≤ 281474976710656) (hv : rightB nm = false) :
    Calls Try.prog 100 #[.agg #[.string nm]] w fun e w' => e = .returned (.bool false) ∧ Below w.heap.size w w' := by
  have HR := Lib.hid (fun w => right_wrong nm w hs hv)
  clear hs hv
  go_enter Try.func100, Try.ntmps100
  go_wp2_with fail
  refine (HR.out _).mono ?_
  rintro e w1 ⟨rfl, b1⟩
  have K : w1.heap[w.heap.size]? = some (.cells #[.string nm] 64) := kept1 b1
  have B : Below w.heap.size w w1 := ((Below.refl _ _).alloc (Nat.le_refl _) _).trans (b1.mono (by simp))
  clear b1
  have k0 : w1.cell? ⟨w.heap.size, 0, none⟩ = some (.string nm) := by rw [Go.Joins.cell_of_block K]; rfl
  clear K
  go_wp2_with fail
  go_ret
  exact ⟨rfl, B⟩
set_option maxHeartbeats 800000 in
set_option maxRecDepth 20000 in
theorem hello_wrong (nm : ByteArray) (hs : nm.size ≤ 281474976710656) (hv : rightB nm = false) : Improper (.iface 64 (.agg #[.string nm])) := by
  intro w
  have hm := mr_Hello nm
  have HR := Lib.hid (fun w => hello_right_wrong nm w hs hv)
  clear hs hv
  go_enter Try.func30, Try.ntmps30
  go_wp2_with fail
  refine (known_Hello nm _).mono ?_
  rintro e w1 ⟨rfl, b1⟩
  go_wp2_with fail
  refine (HR.out _).mono ?_
  rintro e w2 ⟨rfl, b2⟩
  have B := Lib.hid (chain b1 b2)
  clear b1 b2
  go_wp2_with fail
  go_ret2
  exact ⟨rfl, B.out⟩
set_option maxHeartbeats 6400000 in
set_option maxRecDepth 20000 in
theorem strange_p (op : Int) (nm : ByteArray) (hd : ByteArray) (to : ByteArray) (li : Int) (ob : Int) (ri : Int) (ba : Int) (ex : Int) (le : Int) (sf : Bool) (fr : Int) (mo : Int) (far t r : Int) (XS : List Value) (Z : ByteArray) (w : World) (hfar : 0 ≤ far) (ht : Hid (far = t)) (ht0 : 0 ≤ t) (hlo : -9223372036854775808 ≤ far) (r0 : 0 ≤ r) (r1 : r ≤ 999)
    (RM : Hid (t.tmod 1000 = r)) (RE : Hid (t % 1000 = r)) (HZ : Hid (Str (List.replicate 29 (0 : UInt8)) = Z)) (HX : Hid ([.iface 51 (.agg #[.string ⟨#[97]⟩, .int .i64 (1001 + r)]), .iface 51 (.agg #[.string ⟨#[97]⟩, .int .i64 (-1 - r)]), .iface 53 (.agg #[.int .i64 0, .int .i64 1, .int .i64 0, .int .i64 0]), .iface 53 (.agg #[.int .i64 1, .int .i64 (65536 + r), .int .i64 0, .int .i64 0]), .iface 53 (.agg #[.int .i64 1, .int .i64 0, .int .i64 (-1 - r), .int .i64 0]), .iface 55 (.agg #[.string ⟨#[115, 104, 111, 114, 116]⟩]), .iface 58 (.agg #[.string Z, .int .i32 (113 + r)]), .iface 60 (.agg #[.string Z, .int .i64 0, .int .i64 (11 + r)]), .iface 62 (.agg #[.string Z, .int .i64 (268435456 + r)]), .iface 64 (.agg #[.string (nm ++ ⟨#[46]⟩)])] = XS)) (HN : Hid (XS.length = 10)) (hnm : Hid ((9223372036854775807 < nm.size + 1) = False)) (HI : Hid (∀ x ∈ XS, Improper x)) :
    Calls Try.prog 8 #[.agg #[.int .i64 op, .string nm, .string hd, .string to, .int .i64 li, .int .i64 ob, .int .i64 ri, .int .i64 ba, .int .i64 ex, .int .i32 le, .bool sf, .int .i64 fr, .int .i64 mo], .int .i64 far] w fun e w' => e = .returned (.bool true) ∧ Below w.heap.size w w' := by
  have W1 : Hid (IntKind.i64.wrap (1001 + r) = 1001 + r) := Lib.hid (IntWalk.i64_in _ (by omega))
  have W2 : Hid (IntKind.i64.wrap (-1 - r) = -1 - r) := Lib.hid (IntWalk.i64_in _ (by omega))
  have W3 : Hid (IntKind.i64.wrap (65536 + r) = 65536 + r) := Lib.hid (IntWalk.i64_in _ (by omega))
  have W4 : Hid (IntKind.i64.wrap (113 + r) = 113 + r) := Lib.hid (IntWalk.i64_in _ (by omega))
  have W5 : Hid (IntKind.i64.wrap (11 + r) = 11 + r) := Lib.hid (IntWalk.i64_in _ (by omega))
  have W6 : Hid (IntKind.i64.wrap (268435456 + r) = 268435456 + r) := Lib.hid (IntWalk.i64_in _ (by omega))
  have W7 : Hid (IntKind.i64.wrap r = r) := Lib.hid (IntWalk.i64_in _ (by omega))
  have W8 : Hid (IntKind.i32.wrap (113 + r) = 113 + r) := Lib.hid (by rw [IntKind.wrap_i32]; omega)
  go_enter Try.func8, Try.ntmps8
  go_wp2_with fail
  refine (examples_any _).mono ?_
  rintro e w1 ⟨rfl, b1⟩
  have K1 : w1.heap[w.heap.size]? = some (.cells #[.int .i64 op, .string nm, .string hd, .string to, .int .i64 li, .int .i64 ob, .int .i64 ri, .int .i64 ba, .int .i64 ex, .int .i32 le, .bool sf, .int .i64 fr, .int .i64 mo] 34) := kept1 b1
  have BB := Lib.hid (((Below.refl _ _).alloc (Nat.le_refl _) _).trans (b1.mono (by simp)) : Below w.heap.size w w1)
  have lt0 : w.heap.size < w1.heap.size := (Array.getElem?_eq_some_iff.1 K1).1
  have c1 : w1.cell? ⟨w.heap.size, 1, none⟩ = some (.string nm) := by rw [Go.Joins.cell_of_block K1]; rfl
  clear b1 K1
  go_wp2_with fail
  rw [ht.out]
  refine region_kit 99 114 [eqV (.int .i64 t), eqV (.int .i64 (r)), eqV (.int .i64 (1001 + r)), eqV (.agg #[.string ⟨#[97]⟩, .int .i64 (1001 + r)]), eqV (.iface 51 (.agg #[.string ⟨#[97]⟩, .int .i64 (1001 + r)])), eqV (.int .i64 t), eqV (.int .i64 (r)), eqV (.int .i64 (-1 - r)), eqV (.agg #[.string ⟨#[97]⟩, .int .i64 (-1 - r)]), eqV (.iface 51 (.agg #[.string ⟨#[97]⟩, .int .i64 (-1 - r)])), eqV (.agg #[.int .i64 0, .int .i64 1, .int .i64 0, .int .i64 0]), eqV (.iface 53 (.agg #[.int .i64 0, .int .i64 1, .int .i64 0, .int .i64 0])), eqV (.int .i64 t), eqV (.int .i64 (r)), eqV (.int .i64 (65536 + r)), eqV (.agg #[.int .i64 1, .int .i64 (65536 + r), .int .i64 0, .int .i64 0]), eqV (.iface 53 (.agg #[.int .i64 1, .int .i64 (65536 + r), .int .i64 0, .int .i64 0])), eqV (.int .i64 t), eqV (.int .i64 (r)), eqV (.int .i64 (-1 - r)), eqV (.agg #[.int .i64 1, .int .i64 0, .int .i64 (-1 - r), .int .i64 0]), eqV (.iface 53 (.agg #[.int .i64 1, .int .i64 0, .int .i64 (-1 - r), .int .i64 0])), eqV (.agg #[.string ⟨#[115, 104, 111, 114, 116]⟩]), eqV (.iface 55 (.agg #[.string ⟨#[115, 104, 111, 114, 116]⟩])), zerosV, eqV (.string Z), eqV (.int .i64 t), eqV (.int .i64 (r)), eqV (.int .i64 (113 + r)), eqV (.int .i32 (113 + r)), eqV (.agg #[.string Z, .int .i32 (113 + r)]), eqV (.iface 58 (.agg #[.string Z, .int .i32 (113 + r)])), zerosV, eqV (.string Z), eqV (.int .i64 t), eqV (.int .i64 (r)), eqV (.int .i64 (11 + r)), eqV (.agg #[.string Z, .int .i64 0, .int .i64 (11 + r)]), eqV (.iface 60 (.agg #[.string Z, .int .i64 0, .int .i64 (11 + r)])), zerosV, eqV (.string Z), eqV (.int .i64 t), eqV (.int .i64 (r)), eqV (.int .i64 (268435456 + r)), eqV (.agg #[.string Z, .int .i64 (268435456 + r)]), eqV (.iface 62 (.agg #[.string Z, .int .i64 (268435456 + r)])), eqV (.pointer (some ⟨w.heap.size, 1, none⟩)), eqV (.string nm), eqV (.string (nm ++ ⟨#[46]⟩)), eqV (.agg #[.string (nm ++ ⟨#[46]⟩)]), eqV (.iface 64 (.agg #[.string (nm ++ ⟨#[46]⟩)])), tenV XS, tenV XS] (by kernel_rfl) (by kernel_rfl) (by rfl) ?owes ?ends
  case owes =>
    refine OwesAll.cons (k := 0) ?_ ?_
    · intro o ho a wx hS hold hdep K hK
      simp only [List.getElem?_toArray, List.getElem?_cons_succ, List.getElem?_cons_zero, Option.some.injEq] at ho
      subst ho
      have HK := Lib.hid hK
      clear hK
      have d1 : a.tmps.getD 1 undef = .int .i64 t := hold 1 (unset_of (by kernel_rfl))
      clear hold hdep
      rw [Array.getD_eq_getD_getElem?] at d1
      rw [if_pos (by rfl)]
      go_simp
      exact HK.out _ _ rfl (Below.refl _ _)
    refine OwesAll.cons (k := 1) ?_ ?_
    · intro o ho a wx hS hold hdep K hK
      simp only [List.getElem?_toArray, List.getElem?_cons_succ, List.getElem?_cons_zero, Option.some.injEq] at ho
      subst ho
      have HK := Lib.hid hK
      clear hK
      have d20 : a.tmps.getD 20 undef = .int .i64 t := dep_at hdep 0 rfl rfl (by kernel_rfl)
      clear hold hdep
      rw [Array.getD_eq_getD_getElem?] at d20
      rw [if_pos (by rfl)]
      go_simp
      refine HK.out _ _ ?_ (Below.refl _ _)
      show _ = _
      first | rfl | simp only [RM.out, RE.out, W1.out, W2.out, W3.out, W4.out, W5.out, W6.out, W7.out]
    refine OwesAll.cons (k := 2) ?_ ?_
    · intro o ho a wx hS hold hdep K hK
      simp only [List.getElem?_toArray, List.getElem?_cons_succ, List.getElem?_cons_zero, Option.some.injEq] at ho
      subst ho
      have HK := Lib.hid hK
      clear hK
      have d21 : a.tmps.getD 21 undef = .int .i64 (r) := dep_at hdep 1 rfl rfl (by kernel_rfl)
      clear hold hdep
      rw [Array.getD_eq_getD_getElem?] at d21
      rw [if_pos (by rfl)]
      go_simp
      refine HK.out _ _ ?_ (Below.refl _ _)
      show _ = _
      first | rfl | simp only [RM.out, RE.out, W1.out, W2.out, W3.out, W4.out, W5.out, W6.out, W7.out]
    refine OwesAll.cons (k := 3) ?_ ?_
    · intro o ho a wx hS hold hdep K hK
      simp only [List.getElem?_toArray, List.getElem?_cons_succ, List.getElem?_cons_zero, Option.some.injEq] at ho
      subst ho
      have HK := Lib.hid hK
      clear hK
      have d22 : a.tmps.getD 22 undef = .int .i64 (1001 + r) := dep_at hdep 2 rfl rfl (by kernel_rfl)
      clear hold hdep
      rw [Array.getD_eq_getD_getElem?] at d22
      rw [if_pos (by rfl)]
      go_simp
      exact HK.out _ _ rfl (Below.refl _ _)
    refine OwesAll.cons (k := 4) ?_ ?_
    · intro o ho a wx hS hold hdep K hK
      simp only [List.getElem?_toArray, List.getElem?_cons_succ, List.getElem?_cons_zero, Option.some.injEq] at ho
      subst ho
      have HK := Lib.hid hK
      clear hK
      have d23 : a.tmps.getD 23 undef = .agg #[.string ⟨#[97]⟩, .int .i64 (1001 + r)] := dep_at hdep 3 rfl rfl (by kernel_rfl)
      clear hold hdep
      rw [Array.getD_eq_getD_getElem?] at d23
      rw [if_pos (by rfl)]
      go_simp
      exact HK.out _ _ rfl (Below.refl _ _)
    refine OwesAll.cons (k := 5) ?_ ?_
    · intro o ho a wx hS hold hdep K hK
      simp only [List.getElem?_toArray, List.getElem?_cons_succ, List.getElem?_cons_zero, Option.some.injEq] at ho
      subst ho
      have HK := Lib.hid hK
      clear hK
      have d1 : a.tmps.getD 1 undef = .int .i64 t := hold 1 (unset_of (by kernel_rfl))
      clear hold hdep
      rw [Array.getD_eq_getD_getElem?] at d1
      rw [if_pos (by rfl)]
      go_simp
      exact HK.out _ _ rfl (Below.refl _ _)
    refine OwesAll.cons (k := 6) ?_ ?_
    · intro o ho a wx hS hold hdep K hK
      simp only [List.getElem?_toArray, List.getElem?_cons_succ, List.getElem?_cons_zero, Option.some.injEq] at ho
      subst ho
      have HK := Lib.hid hK
      clear hK
      have d25 : a.tmps.getD 25 undef = .int .i64 t := dep_at hdep 5 rfl rfl (by kernel_rfl)
      clear hold hdep
      rw [Array.getD_eq_getD_getElem?] at d25
      rw [if_pos (by rfl)]
      go_simp
      refine HK.out _ _ ?_ (Below.refl _ _)
      show _ = _
      first | rfl | simp only [RM.out, RE.out, W1.out, W2.out, W3.out, W4.out, W5.out, W6.out, W7.out]
    refine OwesAll.cons (k := 7) ?_ ?_
    · intro o ho a wx hS hold hdep K hK
      simp only [List.getElem?_toArray, List.getElem?_cons_succ, List.getElem?_cons_zero, Option.some.injEq] at ho
      subst ho
      have HK := Lib.hid hK
      clear hK
      have d26 : a.tmps.getD 26 undef = .int .i64 (r) := dep_at hdep 6 rfl rfl (by kernel_rfl)
      clear hold hdep
      rw [Array.getD_eq_getD_getElem?] at d26
      rw [if_pos (by rfl)]
      go_simp
      refine HK.out _ _ ?_ (Below.refl _ _)
      show _ = _
      first | rfl | simp only [RM.out, RE.out, W1.out, W2.out, W3.out, W4.out, W5.out, W6.out, W7.out]
    refine OwesAll.cons (k := 8) ?_ ?_
    · intro o ho a wx hS hold hdep K hK
      simp only [List.getElem?_toArray, List.getElem?_cons_succ, List.getElem?_cons_zero, Option.some.injEq] at ho
      subst ho
      have HK := Lib.hid hK
      clear hK
      have d27 : a.tmps.getD 27 undef = .int .i64 (-1 - r) := dep_at hdep 7 rfl rfl (by kernel_rfl)
      clear hold hdep
      rw [Array.getD_eq_getD_getElem?] at d27
      rw [if_pos (by rfl)]
      go_simp
      exact HK.out _ _ rfl (Below.refl _ _)
    refine OwesAll.cons (k := 9) ?_ ?_
    · intro o ho a wx hS hold hdep K hK
      simp only [List.getElem?_toArray, List.getElem?_cons_succ, List.getElem?_cons_zero, Option.some.injEq] at ho
      subst ho
      have HK := Lib.hid hK
      clear hK
      have d28 : a.tmps.getD 28 undef = .agg #[.string ⟨#[97]⟩, .int .i64 (-1 - r)] := dep_at hdep 8 rfl rfl (by kernel_rfl)
      clear hold hdep
      rw [Array.getD_eq_getD_getElem?] at d28
      rw [if_pos (by rfl)]
      go_simp
      exact HK.out _ _ rfl (Below.refl _ _)
    refine OwesAll.cons (k := 10) ?_ ?_
    · intro o ho a wx hS hold hdep K hK
      simp only [List.getElem?_toArray, List.getElem?_cons_succ, List.getElem?_cons_zero, Option.some.injEq] at ho
      subst ho
      have HK := Lib.hid hK
      clear hK
      clear hold hdep
      rw [if_pos (by rfl)]
      go_simp
      exact HK.out _ _ rfl (Below.refl _ _)
    refine OwesAll.cons (k := 11) ?_ ?_
    · intro o ho a wx hS hold hdep K hK
      simp only [List.getElem?_toArray, List.getElem?_cons_succ, List.getElem?_cons_zero, Option.some.injEq] at ho
      subst ho
      have HK := Lib.hid hK
      clear hK
      have d30 : a.tmps.getD 30 undef = .agg #[.int .i64 0, .int .i64 1, .int .i64 0, .int .i64 0] := dep_at hdep 10 rfl rfl (by kernel_rfl)
      clear hold hdep
      rw [Array.getD_eq_getD_getElem?] at d30
      rw [if_pos (by rfl)]
      go_simp
      exact HK.out _ _ rfl (Below.refl _ _)
    refine OwesAll.cons (k := 12) ?_ ?_
    · intro o ho a wx hS hold hdep K hK
      simp only [List.getElem?_toArray, List.getElem?_cons_succ, List.getElem?_cons_zero, Option.some.injEq] at ho
      subst ho
      have HK := Lib.hid hK
      clear hK
      have d1 : a.tmps.getD 1 undef = .int .i64 t := hold 1 (unset_of (by kernel_rfl))
      clear hold hdep
      rw [Array.getD_eq_getD_getElem?] at d1
      rw [if_pos (by rfl)]
      go_simp
      exact HK.out _ _ rfl (Below.refl _ _)
    refine OwesAll.cons (k := 13) ?_ ?_
    · intro o ho a wx hS hold hdep K hK
      simp only [List.getElem?_toArray, List.getElem?_cons_succ, List.getElem?_cons_zero, Option.some.injEq] at ho
      subst ho
      have HK := Lib.hid hK
      clear hK
      have d32 : a.tmps.getD 32 undef = .int .i64 t := dep_at hdep 12 rfl rfl (by kernel_rfl)
      clear hold hdep
      rw [Array.getD_eq_getD_getElem?] at d32
      rw [if_pos (by rfl)]
      go_simp
      refine HK.out _ _ ?_ (Below.refl _ _)
      show _ = _
      first | rfl | simp only [RM.out, RE.out, W1.out, W2.out, W3.out, W4.out, W5.out, W6.out, W7.out]
    refine OwesAll.cons (k := 14) ?_ ?_
    · intro o ho a wx hS hold hdep K hK
      simp only [List.getElem?_toArray, List.getElem?_cons_succ, List.getElem?_cons_zero, Option.some.injEq] at ho
      subst ho
      have HK := Lib.hid hK
      clear hK
      have d33 : a.tmps.getD 33 undef = .int .i64 (r) := dep_at hdep 13 rfl rfl (by kernel_rfl)
      clear hold hdep
      rw [Array.getD_eq_getD_getElem?] at d33
      rw [if_pos (by rfl)]
      go_simp
      refine HK.out _ _ ?_ (Below.refl _ _)
      show _ = _
      first | rfl | simp only [RM.out, RE.out, W1.out, W2.out, W3.out, W4.out, W5.out, W6.out, W7.out]
    refine OwesAll.cons (k := 15) ?_ ?_
    · intro o ho a wx hS hold hdep K hK
      simp only [List.getElem?_toArray, List.getElem?_cons_succ, List.getElem?_cons_zero, Option.some.injEq] at ho
      subst ho
      have HK := Lib.hid hK
      clear hK
      have d34 : a.tmps.getD 34 undef = .int .i64 (65536 + r) := dep_at hdep 14 rfl rfl (by kernel_rfl)
      clear hold hdep
      rw [Array.getD_eq_getD_getElem?] at d34
      rw [if_pos (by rfl)]
      go_simp
      exact HK.out _ _ rfl (Below.refl _ _)
    refine OwesAll.cons (k := 16) ?_ ?_
    · intro o ho a wx hS hold hdep K hK
      simp only [List.getElem?_toArray, List.getElem?_cons_succ, List.getElem?_cons_zero, Option.some.injEq] at ho
      subst ho
      have HK := Lib.hid hK
      clear hK
      have d35 : a.tmps.getD 35 undef = .agg #[.int .i64 1, .int .i64 (65536 + r), .int .i64 0, .int .i64 0] := dep_at hdep 15 rfl rfl (by kernel_rfl)
      clear hold hdep
      rw [Array.getD_eq_getD_getElem?] at d35
      rw [if_pos (by rfl)]
      go_simp
      exact HK.out _ _ rfl (Below.refl _ _)
    refine OwesAll.cons (k := 17) ?_ ?_
    · intro o ho a wx hS hold hdep K hK
      simp only [List.getElem?_toArray, List.getElem?_cons_succ, List.getElem?_cons_zero, Option.some.injEq] at ho
      subst ho
      have HK := Lib.hid hK
      clear hK
      have d1 : a.tmps.getD 1 undef = .int .i64 t := hold 1 (unset_of (by kernel_rfl))
      clear hold hdep
      rw [Array.getD_eq_getD_getElem?] at d1
      rw [if_pos (by rfl)]
      go_simp
      exact HK.out _ _ rfl (Below.refl _ _)
    refine OwesAll.cons (k := 18) ?_ ?_
    · intro o ho a wx hS hold hdep K hK
      simp only [List.getElem?_toArray, List.getElem?_cons_succ, List.getElem?_cons_zero, Option.some.injEq] at ho
      subst ho
      have HK := Lib.hid hK
      clear hK
      have d37 : a.tmps.getD 37 undef = .int .i64 t := dep_at hdep 17 rfl rfl (by kernel_rfl)
      clear hold hdep
      rw [Array.getD_eq_getD_getElem?] at d37
      rw [if_pos (by rfl)]
      go_simp
      refine HK.out _ _ ?_ (Below.refl _ _)
      show _ = _
      first | rfl | simp only [RM.out, RE.out, W1.out, W2.out, W3.out, W4.out, W5.out, W6.out, W7.out]
    refine OwesAll.cons (k := 19) ?_ ?_
    · intro o ho a wx hS hold hdep K hK
      simp only [List.getElem?_toArray, List.getElem?_cons_succ, List.getElem?_cons_zero, Option.some.injEq] at ho
      subst ho
      have HK := Lib.hid hK
      clear hK
      have d38 : a.tmps.getD 38 undef = .int .i64 (r) := dep_at hdep 18 rfl rfl (by kernel_rfl)
      clear hold hdep
      rw [Array.getD_eq_getD_getElem?] at d38
      rw [if_pos (by rfl)]
      go_simp
      refine HK.out _ _ ?_ (Below.refl _ _)
      show _ = _
      first | rfl | simp only [RM.out, RE.out, W1.out, W2.out, W3.out, W4.out, W5.out, W6.out, W7.out]
    refine OwesAll.cons (k := 20) ?_ ?_
    · intro o ho a wx hS hold hdep K hK
      simp only [List.getElem?_toArray, List.getElem?_cons_succ, List.getElem?_cons_zero, Option.some.injEq] at ho
      subst ho
      have HK := Lib.hid hK
      clear hK
      have d39 : a.tmps.getD 39 undef = .int .i64 (-1 - r) := dep_at hdep 19 rfl rfl (by kernel_rfl)
      clear hold hdep
      rw [Array.getD_eq_getD_getElem?] at d39
      rw [if_pos (by rfl)]
      go_simp
      exact HK.out _ _ rfl (Below.refl _ _)
    refine OwesAll.cons (k := 21) ?_ ?_
    · intro o ho a wx hS hold hdep K hK
      simp only [List.getElem?_toArray, List.getElem?_cons_succ, List.getElem?_cons_zero, Option.some.injEq] at ho
      subst ho
      have HK := Lib.hid hK
      clear hK
      have d40 : a.tmps.getD 40 undef = .agg #[.int .i64 1, .int .i64 0, .int .i64 (-1 - r), .int .i64 0] := dep_at hdep 20 rfl rfl (by kernel_rfl)
      clear hold hdep
      rw [Array.getD_eq_getD_getElem?] at d40
      rw [if_pos (by rfl)]
      go_simp
      exact HK.out _ _ rfl (Below.refl _ _)
    refine OwesAll.cons (k := 22) ?_ ?_
    · intro o ho a wx hS hold hdep K hK
      simp only [List.getElem?_toArray, List.getElem?_cons_succ, List.getElem?_cons_zero, Option.some.injEq] at ho
      subst ho
      have HK := Lib.hid hK
      clear hK
      clear hold hdep
      rw [if_pos (by rfl)]
      go_simp
      exact HK.out _ _ rfl (Below.refl _ _)
    refine OwesAll.cons (k := 23) ?_ ?_
    · intro o ho a wx hS hold hdep K hK
      simp only [List.getElem?_toArray, List.getElem?_cons_succ, List.getElem?_cons_zero, Option.some.injEq] at ho
      subst ho
      have HK := Lib.hid hK
      clear hK
      have d42 : a.tmps.getD 42 undef = .agg #[.string ⟨#[115, 104, 111, 114, 116]⟩] := dep_at hdep 22 rfl rfl (by kernel_rfl)
      clear hold hdep
      rw [Array.getD_eq_getD_getElem?] at d42
      rw [if_pos (by rfl)]
      go_simp
      exact HK.out _ _ rfl (Below.refl _ _)
    refine OwesAll.cons (k := 24) ?_ ?_
    · intro o ho a wx hS hold hdep K hK
      simp only [List.getElem?_toArray, List.getElem?_cons_succ, List.getElem?_cons_zero, Option.some.injEq] at ho
      subst ho
      have HK := Lib.hid hK
      clear hK
      clear hold hdep
      obtain ⟨w3, hmk, hrow, hbel⟩ := made_bytes wx 29 29 (Nat.le_refl _) (by decide)
      have hmk' : (Instr.makeSlice 56 (.int .i64 29) (.int .i64 29)).run Try.prog wx = .ok (.slice (some ⟨wx.heap.size, 0, none⟩) 29 29) w3 := hmk
      clear hmk
      rw [if_pos (by rfl)]
      go_simp
      exact HK.out _ _ ⟨_, rfl, hrow⟩ hbel
    refine OwesAll.cons (k := 25) ?_ ?_
    · intro o ho a wx hS hold hdep K hK
      simp only [List.getElem?_toArray, List.getElem?_cons_succ, List.getElem?_cons_zero, Option.some.injEq] at ho
      subst ho
      have HK := Lib.hid hK
      clear hK
      obtain ⟨g44, d44, z44⟩ : ∃ g, a.tmps.getD 44 undef = .slice (some ⟨g, 0, none⟩) 29 29 ∧ Byt 5 wx g (List.replicate 29 0) := dep_at hdep 24 rfl rfl (by kernel_rfl)
      clear hold hdep
      rw [Array.getD_eq_getD_getElem?] at d44
      have hcv := z44.conv 29 29 (by rw [List.length_replicate]; exact Nat.le_refl _)
      rw [List.take_of_length_le (by rw [List.length_replicate]; exact Nat.le_refl _), HZ.out] at hcv
      have hcv' : (convert 56 9 (.slice (some ⟨g44, 0, none⟩) 29 29)).run Try.prog wx = .ok (.string Z) wx := hcv
      clear hcv
      rw [if_pos (by rfl)]
      go_simp
      exact HK.out _ _ rfl (Below.refl _ _)
    refine OwesAll.cons (k := 26) ?_ ?_
    · intro o ho a wx hS hold hdep K hK
      simp only [List.getElem?_toArray, List.getElem?_cons_succ, List.getElem?_cons_zero, Option.some.injEq] at ho
      subst ho
      have HK := Lib.hid hK
      clear hK
      have d1 : a.tmps.getD 1 undef = .int .i64 t := hold 1 (unset_of (by kernel_rfl))
      clear hold hdep
      rw [Array.getD_eq_getD_getElem?] at d1
      rw [if_pos (by rfl)]
      go_simp
      exact HK.out _ _ rfl (Below.refl _ _)
    refine OwesAll.cons (k := 27) ?_ ?_
    · intro o ho a wx hS hold hdep K hK
      simp only [List.getElem?_toArray, List.getElem?_cons_succ, List.getElem?_cons_zero, Option.some.injEq] at ho
      subst ho
      have HK := Lib.hid hK
      clear hK
      have d46 : a.tmps.getD 46 undef = .int .i64 t := dep_at hdep 26 rfl rfl (by kernel_rfl)
      clear hold hdep
      rw [Array.getD_eq_getD_getElem?] at d46
      rw [if_pos (by rfl)]
      go_simp
      refine HK.out _ _ ?_ (Below.refl _ _)
      show _ = _
      first | rfl | simp only [RM.out, RE.out, W1.out, W2.out, W3.out, W4.out, W5.out, W6.out, W7.out]
    refine OwesAll.cons (k := 28) ?_ ?_
    · intro o ho a wx hS hold hdep K hK
      simp only [List.getElem?_toArray, List.getElem?_cons_succ, List.getElem?_cons_zero, Option.some.injEq] at ho
      subst ho
      have HK := Lib.hid hK
      clear hK
      have d47 : a.tmps.getD 47 undef = .int .i64 (r) := dep_at hdep 27 rfl rfl (by kernel_rfl)
      clear hold hdep
      rw [Array.getD_eq_getD_getElem?] at d47
      rw [if_pos (by rfl)]
      go_simp
      refine HK.out _ _ ?_ (Below.refl _ _)
      show _ = _
      first | rfl | simp only [RM.out, RE.out, W1.out, W2.out, W3.out, W4.out, W5.out, W6.out, W7.out]
    refine OwesAll.cons (k := 29) ?_ ?_
    · intro o ho a wx hS hold hdep K hK
      simp only [List.getElem?_toArray, List.getElem?_cons_succ, List.getElem?_cons_zero, Option.some.injEq] at ho
      subst ho
      have HK := Lib.hid hK
      clear hK
      have d48 : a.tmps.getD 48 undef = .int .i64 (113 + r) := dep_at hdep 28 rfl rfl (by kernel_rfl)
      clear hold hdep
      rw [Array.getD_eq_getD_getElem?] at d48
      rw [if_pos (by rfl)]
      go_simp
      refine HK.out _ _ ?_ (Below.refl _ _)
      show _ = _
      first | rfl | simp only [W8.out]
    refine OwesAll.cons (k := 30) ?_ ?_
    · intro o ho a wx hS hold hdep K hK
      simp only [List.getElem?_toArray, List.getElem?_cons_succ, List.getElem?_cons_zero, Option.some.injEq] at ho
      subst ho
      have HK := Lib.hid hK
      clear hK
      have d45 : a.tmps.getD 45 undef = .string Z := dep_at hdep 25 rfl rfl (by kernel_rfl)
      have d49 : a.tmps.getD 49 undef = .int .i32 (113 + r) := dep_at hdep 29 rfl rfl (by kernel_rfl)
      clear hold hdep
      rw [Array.getD_eq_getD_getElem?] at d45
      rw [Array.getD_eq_getD_getElem?] at d49
      rw [if_pos (by rfl)]
      go_simp
      exact HK.out _ _ rfl (Below.refl _ _)
    refine OwesAll.cons (k := 31) ?_ ?_
    · intro o ho a wx hS hold hdep K hK
      simp only [List.getElem?_toArray, List.getElem?_cons_succ, List.getElem?_cons_zero, Option.some.injEq] at ho
      subst ho
      have HK := Lib.hid hK
      clear hK
      have d50 : a.tmps.getD 50 undef = .agg #[.string Z, .int .i32 (113 + r)] := dep_at hdep 30 rfl rfl (by kernel_rfl)
      clear hold hdep
      rw [Array.getD_eq_getD_getElem?] at d50
      rw [if_pos (by rfl)]
      go_simp
      exact HK.out _ _ rfl (Below.refl _ _)
    refine OwesAll.cons (k := 32) ?_ ?_
    · intro o ho a wx hS hold hdep K hK
      simp only [List.getElem?_toArray, List.getElem?_cons_succ, List.getElem?_cons_zero, Option.some.injEq] at ho
      subst ho
      have HK := Lib.hid hK
      clear hK
      clear hold hdep
      obtain ⟨w3, hmk, hrow, hbel⟩ := made_bytes wx 29 29 (Nat.le_refl _) (by decide)
      have hmk' : (Instr.makeSlice 56 (.int .i64 29) (.int .i64 29)).run Try.prog wx = .ok (.slice (some ⟨wx.heap.size, 0, none⟩) 29 29) w3 := hmk
      clear hmk
      rw [if_pos (by rfl)]
      go_simp
      exact HK.out _ _ ⟨_, rfl, hrow⟩ hbel
    refine OwesAll.cons (k := 33) ?_ ?_
    · intro o ho a wx hS hold hdep K hK
      simp only [List.getElem?_toArray, List.getElem?_cons_succ, List.getElem?_cons_zero, Option.some.injEq] at ho
      subst ho
      have HK := Lib.hid hK
      clear hK
      obtain ⟨g52, d52, z52⟩ : ∃ g, a.tmps.getD 52 undef = .slice (some ⟨g, 0, none⟩) 29 29 ∧ Byt 5 wx g (List.replicate 29 0) := dep_at hdep 32 rfl rfl (by kernel_rfl)
      clear hold hdep
      rw [Array.getD_eq_getD_getElem?] at d52
      have hcv := z52.conv 29 29 (by rw [List.length_replicate]; exact Nat.le_refl _)
      rw [List.take_of_length_le (by rw [List.length_replicate]; exact Nat.le_refl _), HZ.out] at hcv
      have hcv' : (convert 56 9 (.slice (some ⟨g52, 0, none⟩) 29 29)).run Try.prog wx = .ok (.string Z) wx := hcv
      clear hcv
      rw [if_pos (by rfl)]
      go_simp
      exact HK.out _ _ rfl (Below.refl _ _)
    refine OwesAll.cons (k := 34) ?_ ?_
    · intro o ho a wx hS hold hdep K hK
      simp only [List.getElem?_toArray, List.getElem?_cons_succ, List.getElem?_cons_zero, Option.some.injEq] at ho
      subst ho
      have HK := Lib.hid hK
      clear hK
      have d1 : a.tmps.getD 1 undef = .int .i64 t := hold 1 (unset_of (by kernel_rfl))
      clear hold hdep
      rw [Array.getD_eq_getD_getElem?] at d1
      rw [if_pos (by rfl)]
      go_simp
      exact HK.out _ _ rfl (Below.refl _ _)
    refine OwesAll.cons (k := 35) ?_ ?_
    · intro o ho a wx hS hold hdep K hK
      simp only [List.getElem?_toArray, List.getElem?_cons_succ, List.getElem?_cons_zero, Option.some.injEq] at ho
      subst ho
      have HK := Lib.hid hK
      clear hK
      have d54 : a.tmps.getD 54 undef = .int .i64 t := dep_at hdep 34 rfl rfl (by kernel_rfl)
      clear hold hdep
      rw [Array.getD_eq_getD_getElem?] at d54
      rw [if_pos (by rfl)]
      go_simp
      refine HK.out _ _ ?_ (Below.refl _ _)
      show _ = _
      first | rfl | simp only [RM.out, RE.out, W1.out, W2.out, W3.out, W4.out, W5.out, W6.out, W7.out]
    refine OwesAll.cons (k := 36) ?_ ?_
    · intro o ho a wx hS hold hdep K hK
      simp only [List.getElem?_toArray, List.getElem?_cons_succ, List.getElem?_cons_zero, Option.some.injEq] at ho
      subst ho
      have HK := Lib.hid hK
      clear hK
      have d55 : a.tmps.getD 55 undef = .int .i64 (r) := dep_at hdep 35 rfl rfl (by kernel_rfl)
      clear hold hdep
      rw [Array.getD_eq_getD_getElem?] at d55
      rw [if_pos (by rfl)]
      go_simp
      refine HK.out _ _ ?_ (Below.refl _ _)
      show _ = _
      first | rfl | simp only [RM.out, RE.out, W1.out, W2.out, W3.out, W4.out, W5.out, W6.out, W7.out]
    refine OwesAll.cons (k := 37) ?_ ?_
    · intro o ho a wx hS hold hdep K hK
      simp only [List.getElem?_toArray, List.getElem?_cons_succ, List.getElem?_cons_zero, Option.some.injEq] at ho
      subst ho
      have HK := Lib.hid hK
      clear hK
      have d53 : a.tmps.getD 53 undef = .string Z := dep_at hdep 33 rfl rfl (by kernel_rfl)
      have d56 : a.tmps.getD 56 undef = .int .i64 (11 + r) := dep_at hdep 36 rfl rfl (by kernel_rfl)
      clear hold hdep
      rw [Array.getD_eq_getD_getElem?] at d53
      rw [Array.getD_eq_getD_getElem?] at d56
      rw [if_pos (by rfl)]
      go_simp
      exact HK.out _ _ rfl (Below.refl _ _)
    refine OwesAll.cons (k := 38) ?_ ?_
    · intro o ho a wx hS hold hdep K hK
      simp only [List.getElem?_toArray, List.getElem?_cons_succ, List.getElem?_cons_zero, Option.some.injEq] at ho
      subst ho
      have HK := Lib.hid hK
      clear hK
      have d57 : a.tmps.getD 57 undef = .agg #[.string Z, .int .i64 0, .int .i64 (11 + r)] := dep_at hdep 37 rfl rfl (by kernel_rfl)
      clear hold hdep
      rw [Array.getD_eq_getD_getElem?] at d57
      rw [if_pos (by rfl)]
      go_simp
      exact HK.out _ _ rfl (Below.refl _ _)
    refine OwesAll.cons (k := 39) ?_ ?_
    · intro o ho a wx hS hold hdep K hK
      simp only [List.getElem?_toArray, List.getElem?_cons_succ, List.getElem?_cons_zero, Option.some.injEq] at ho
      subst ho
      have HK := Lib.hid hK
      clear hK
      clear hold hdep
      obtain ⟨w3, hmk, hrow, hbel⟩ := made_bytes wx 29 29 (Nat.le_refl _) (by decide)
      have hmk' : (Instr.makeSlice 56 (.int .i64 29) (.int .i64 29)).run Try.prog wx = .ok (.slice (some ⟨wx.heap.size, 0, none⟩) 29 29) w3 := hmk
      clear hmk
      rw [if_pos (by rfl)]
      go_simp
      exact HK.out _ _ ⟨_, rfl, hrow⟩ hbel
    refine OwesAll.cons (k := 40) ?_ ?_
    · intro o ho a wx hS hold hdep K hK
      simp only [List.getElem?_toArray, List.getElem?_cons_succ, List.getElem?_cons_zero, Option.some.injEq] at ho
      subst ho
      have HK := Lib.hid hK
      clear hK
      obtain ⟨g59, d59, z59⟩ : ∃ g, a.tmps.getD 59 undef = .slice (some ⟨g, 0, none⟩) 29 29 ∧ Byt 5 wx g (List.replicate 29 0) := dep_at hdep 39 rfl rfl (by kernel_rfl)
      clear hold hdep
      rw [Array.getD_eq_getD_getElem?] at d59
      have hcv := z59.conv 29 29 (by rw [List.length_replicate]; exact Nat.le_refl _)
      rw [List.take_of_length_le (by rw [List.length_replicate]; exact Nat.le_refl _), HZ.out] at hcv
      have hcv' : (convert 56 9 (.slice (some ⟨g59, 0, none⟩) 29 29)).run Try.prog wx = .ok (.string Z) wx := hcv
      clear hcv
      rw [if_pos (by rfl)]
      go_simp
      exact HK.out _ _ rfl (Below.refl _ _)
    refine OwesAll.cons (k := 41) ?_ ?_
    · intro o ho a wx hS hold hdep K hK
      simp only [List.getElem?_toArray, List.getElem?_cons_succ, List.getElem?_cons_zero, Option.some.injEq] at ho
      subst ho
      have HK := Lib.hid hK
      clear hK
      have d1 : a.tmps.getD 1 undef = .int .i64 t := hold 1 (unset_of (by kernel_rfl))
      clear hold hdep
      rw [Array.getD_eq_getD_getElem?] at d1
      rw [if_pos (by rfl)]
      go_simp
      exact HK.out _ _ rfl (Below.refl _ _)
    refine OwesAll.cons (k := 42) ?_ ?_
    · intro o ho a wx hS hold hdep K hK
      simp only [List.getElem?_toArray, List.getElem?_cons_succ, List.getElem?_cons_zero, Option.some.injEq] at ho
      subst ho
      have HK := Lib.hid hK
      clear hK
      have d61 : a.tmps.getD 61 undef = .int .i64 t := dep_at hdep 41 rfl rfl (by kernel_rfl)
      clear hold hdep
      rw [Array.getD_eq_getD_getElem?] at d61
      rw [if_pos (by rfl)]
      go_simp
      refine HK.out _ _ ?_ (Below.refl _ _)
      show _ = _
      first | rfl | simp only [RM.out, RE.out, W1.out, W2.out, W3.out, W4.out, W5.out, W6.out, W7.out]
    refine OwesAll.cons (k := 43) ?_ ?_
    · intro o ho a wx hS hold hdep K hK
      simp only [List.getElem?_toArray, List.getElem?_cons_succ, List.getElem?_cons_zero, Option.some.injEq] at ho
      subst ho
      have HK := Lib.hid hK
      clear hK
      have d62 : a.tmps.getD 62 undef = .int .i64 (r) := dep_at hdep 42 rfl rfl (by kernel_rfl)
      clear hold hdep
      rw [Array.getD_eq_getD_getElem?] at d62
      rw [if_pos (by rfl)]
      go_simp
      refine HK.out _ _ ?_ (Below.refl _ _)
      show _ = _
      first | rfl | simp only [RM.out, RE.out, W1.out, W2.out, W3.out, W4.out, W5.out, W6.out, W7.out]
    refine OwesAll.cons (k := 44) ?_ ?_
    · intro o ho a wx hS hold hdep K hK
      simp only [List.getElem?_toArray, List.getElem?_cons_succ, List.getElem?_cons_zero, Option.some.injEq] at ho
      subst ho
      have HK := Lib.hid hK
      clear hK
      have d60 : a.tmps.getD 60 undef = .string Z := dep_at hdep 40 rfl rfl (by kernel_rfl)
      have d63 : a.tmps.getD 63 undef = .int .i64 (268435456 + r) := dep_at hdep 43 rfl rfl (by kernel_rfl)
      clear hold hdep
      rw [Array.getD_eq_getD_getElem?] at d60
      rw [Array.getD_eq_getD_getElem?] at d63
      rw [if_pos (by rfl)]
      go_simp
      exact HK.out _ _ rfl (Below.refl _ _)
    refine OwesAll.cons (k := 45) ?_ ?_
    · intro o ho a wx hS hold hdep K hK
      simp only [List.getElem?_toArray, List.getElem?_cons_succ, List.getElem?_cons_zero, Option.some.injEq] at ho
      subst ho
      have HK := Lib.hid hK
      clear hK
      have d64 : a.tmps.getD 64 undef = .agg #[.string Z, .int .i64 (268435456 + r)] := dep_at hdep 44 rfl rfl (by kernel_rfl)
      clear hold hdep
      rw [Array.getD_eq_getD_getElem?] at d64
      rw [if_pos (by rfl)]
      go_simp
      exact HK.out _ _ rfl (Below.refl _ _)
    refine OwesAll.cons (k := 46) ?_ ?_
    · intro o ho a wx hS hold hdep K hK
      simp only [List.getElem?_toArray, List.getElem?_cons_succ, List.getElem?_cons_zero, Option.some.injEq] at ho
      subst ho
      have HK := Lib.hid hK
      clear hK
      have d2 : a.tmps.getD 2 undef = .pointer (some ⟨w.heap.size, 0, none⟩) := hold 2 (unset_of (by kernel_rfl))
      clear hold hdep
      rw [Array.getD_eq_getD_getElem?] at d2
      rw [if_pos (by rfl)]
      go_simp
      exact HK.out _ _ rfl (Below.refl _ _)
    refine OwesAll.cons (k := 47) ?_ ?_
    · intro o ho a wx hS hold hdep K hK
      simp only [List.getElem?_toArray, List.getElem?_cons_succ, List.getElem?_cons_zero, Option.some.injEq] at ho
      subst ho
      have HK := Lib.hid hK
      clear hK
      have d66 : a.tmps.getD 66 undef = .pointer (some ⟨w.heap.size, 1, none⟩) := dep_at hdep 46 rfl rfl (by kernel_rfl)
      clear hold hdep
      rw [Array.getD_eq_getD_getElem?] at d66
      rw [if_pos (by rfl)]
      have c0 : wx.cell? ⟨w.heap.size, 1, none⟩ = some (.string nm) := (hS.cell (p := ⟨w.heap.size, 1, none⟩) lt0).trans c1
      go_simp
      exact HK.out _ _ rfl (Below.refl _ _)
    refine OwesAll.cons (k := 48) ?_ ?_
    · intro o ho a wx hS hold hdep K hK
      simp only [List.getElem?_toArray, List.getElem?_cons_succ, List.getElem?_cons_zero, Option.some.injEq] at ho
      subst ho
      have HK := Lib.hid hK
      clear hK
      have d67 : a.tmps.getD 67 undef = .string nm := dep_at hdep 47 rfl rfl (by kernel_rfl)
      clear hold hdep
      rw [Array.getD_eq_getD_getElem?] at d67
      have hq := hnm.out
      rw [if_pos (by rfl)]
      go_simp
      exact HK.out _ _ rfl (Below.refl _ _)
    refine OwesAll.cons (k := 49) ?_ ?_
    · intro o ho a wx hS hold hdep K hK
      simp only [List.getElem?_toArray, List.getElem?_cons_succ, List.getElem?_cons_zero, Option.some.injEq] at ho
      subst ho
      have HK := Lib.hid hK
      clear hK
      have d68 : a.tmps.getD 68 undef = .string (nm ++ ⟨#[46]⟩) := dep_at hdep 48 rfl rfl (by kernel_rfl)
      clear hold hdep
      rw [Array.getD_eq_getD_getElem?] at d68
      rw [if_pos (by rfl)]
      go_simp
      exact HK.out _ _ rfl (Below.refl _ _)
    refine OwesAll.cons (k := 50) ?_ ?_
    · intro o ho a wx hS hold hdep K hK
      simp only [List.getElem?_toArray, List.getElem?_cons_succ, List.getElem?_cons_zero, Option.some.injEq] at ho
      subst ho
      have HK := Lib.hid hK
      clear hK
      have d69 : a.tmps.getD 69 undef = .agg #[.string (nm ++ ⟨#[46]⟩)] := dep_at hdep 49 rfl rfl (by kernel_rfl)
      clear hold hdep
      rw [Array.getD_eq_getD_getElem?] at d69
      rw [if_pos (by rfl)]
      go_simp
      exact HK.out _ _ rfl (Below.refl _ _)
    refine OwesAll.cons (k := 51) ?_ ?_
    · intro o ho a wx hS hold hdep K hK
      simp only [List.getElem?_toArray, List.getElem?_cons_succ, List.getElem?_cons_zero, Option.some.injEq] at ho
      subst ho
      have HK := Lib.hid hK
      clear hK
      have d24 : a.tmps.getD 24 undef = .iface 51 (.agg #[.string ⟨#[97]⟩, .int .i64 (1001 + r)]) := dep_at hdep 4 rfl rfl (by kernel_rfl)
      have d29 : a.tmps.getD 29 undef = .iface 51 (.agg #[.string ⟨#[97]⟩, .int .i64 (-1 - r)]) := dep_at hdep 9 rfl rfl (by kernel_rfl)
      have d31 : a.tmps.getD 31 undef = .iface 53 (.agg #[.int .i64 0, .int .i64 1, .int .i64 0, .int .i64 0]) := dep_at hdep 11 rfl rfl (by kernel_rfl)
      have d36 : a.tmps.getD 36 undef = .iface 53 (.agg #[.int .i64 1, .int .i64 (65536 + r), .int .i64 0, .int .i64 0]) := dep_at hdep 16 rfl rfl (by kernel_rfl)
      have d41 : a.tmps.getD 41 undef = .iface 53 (.agg #[.int .i64 1, .int .i64 0, .int .i64 (-1 - r), .int .i64 0]) := dep_at hdep 21 rfl rfl (by kernel_rfl)
      have d43 : a.tmps.getD 43 undef = .iface 55 (.agg #[.string ⟨#[115, 104, 111, 114, 116]⟩]) := dep_at hdep 23 rfl rfl (by kernel_rfl)
      have d51 : a.tmps.getD 51 undef = .iface 58 (.agg #[.string Z, .int .i32 (113 + r)]) := dep_at hdep 31 rfl rfl (by kernel_rfl)
      have d58 : a.tmps.getD 58 undef = .iface 60 (.agg #[.string Z, .int .i64 0, .int .i64 (11 + r)]) := dep_at hdep 38 rfl rfl (by kernel_rfl)
      have d65 : a.tmps.getD 65 undef = .iface 62 (.agg #[.string Z, .int .i64 (268435456 + r)]) := dep_at hdep 45 rfl rfl (by kernel_rfl)
      have d70 : a.tmps.getD 70 undef = .iface 64 (.agg #[.string (nm ++ ⟨#[46]⟩)]) := dep_at hdep 50 rfl rfl (by kernel_rfl)
      clear hold hdep
      rw [Array.getD_eq_getD_getElem?] at d24
      rw [Array.getD_eq_getD_getElem?] at d29
      rw [Array.getD_eq_getD_getElem?] at d31
      rw [Array.getD_eq_getD_getElem?] at d36
      rw [Array.getD_eq_getD_getElem?] at d41
      rw [Array.getD_eq_getD_getElem?] at d43
      rw [Array.getD_eq_getD_getElem?] at d51
      rw [Array.getD_eq_getD_getElem?] at d58
      rw [Array.getD_eq_getD_getElem?] at d65
      rw [Array.getD_eq_getD_getElem?] at d70
      rw [if_pos (by rfl)]
      go_simp
      exact HK.out _ _ ⟨_, rfl, by rw [← HX.out]; exact Rd.made _ _ _⟩ (below_made _ _)
    refine OwesAll.cons (k := 52) ?_ ?_
    · intro o ho a wx hS hold hdep K hK
      simp only [List.getElem?_toArray, List.getElem?_cons_succ, List.getElem?_cons_zero, Option.some.injEq] at ho
      subst ho
      have HK := Lib.hid hK
      clear hK
      obtain ⟨a71, d71, r71⟩ : ∃ a', a.tmps.getD 71 undef = .slice a' 10 10 ∧ Rd wx a' XS := dep_at hdep 51 rfl rfl (by kernel_rfl)
      clear hold hdep
      rw [Array.getD_eq_getD_getElem?] at d71
      rw [if_pos (by rfl)]
      go_simp
      exact HK.out _ _ ⟨_, rfl, r71⟩ (Below.refl _ _)
    exact OwesAll.nil
  case ends =>
    intro a wx hS hsz hdf hold hdone
    simp only [List.getElem?_toArray, List.getElem?_cons_succ, List.getElem?_cons_zero, List.getElem?_nil]
    have hsz' : a.tmps.size = 114 := hsz
    have hdf' : a.defers = [] := hdf
    have ha := act_lit hsz' hdf'
    have e0 := hold 0 (unset_of (by kernel_rfl))
    have e1 := hold 1 (unset_of (by kernel_rfl))
    have e2 := hold 2 (unset_of (by kernel_rfl))
    have e3 := hold 3 (unset_of (by kernel_rfl))
    have e4 := hold 4 (unset_of (by kernel_rfl))
    have e5 := hold 5 (unset_of (by kernel_rfl))
    have e7 := hold 7 (unset_of (by kernel_rfl))
    have e8 := hold 8 (unset_of (by kernel_rfl))
    have e9 := hold 9 (unset_of (by kernel_rfl))
    have e10 := hold 10 (unset_of (by kernel_rfl))
    have e11 := hold 11 (unset_of (by kernel_rfl))
    have e12 := hold 12 (unset_of (by kernel_rfl))
    have e13 := hold 13 (unset_of (by kernel_rfl))
    have e14 := hold 14 (unset_of (by kernel_rfl))
    have e15 := hold 15 (unset_of (by kernel_rfl))
    have e16 := hold 16 (unset_of (by kernel_rfl))
    have e17 := hold 17 (unset_of (by kernel_rfl))
    have e18 := hold 18 (unset_of (by kernel_rfl))
    have e19 := hold 19 (unset_of (by kernel_rfl))
    have e72 := hold 72 (unset_of (by kernel_rfl))
    have e73 := hold 73 (unset_of (by kernel_rfl))
    have e74 := hold 74 (unset_of (by kernel_rfl))
    have e75 := hold 75 (unset_of (by kernel_rfl))
    have e76 := hold 76 (unset_of (by kernel_rfl))
    have e77 := hold 77 (unset_of (by kernel_rfl))
    have e78 := hold 78 (unset_of (by kernel_rfl))
    have e79 := hold 79 (unset_of (by kernel_rfl))
    have e80 := hold 80 (unset_of (by kernel_rfl))
    have e81 := hold 81 (unset_of (by kernel_rfl))
    have e82 := hold 82 (unset_of (by kernel_rfl))
    have e83 := hold 83 (unset_of (by kernel_rfl))
    have e84 := hold 84 (unset_of (by kernel_rfl))
    have e85 := hold 85 (unset_of (by kernel_rfl))
    have e86 := hold 86 (unset_of (by kernel_rfl))
    have e87 := hold 87 (unset_of (by kernel_rfl))
    have e88 := hold 88 (unset_of (by kernel_rfl))
    have e89 := hold 89 (unset_of (by kernel_rfl))
    have e90 := hold 90 (unset_of (by kernel_rfl))
    have e91 := hold 91 (unset_of (by kernel_rfl))
    have e92 := hold 92 (unset_of (by kernel_rfl))
    have e93 := hold 93 (unset_of (by kernel_rfl))
    have e94 := hold 94 (unset_of (by kernel_rfl))
    have e95 := hold 95 (unset_of (by kernel_rfl))
    have e96 := hold 96 (unset_of (by kernel_rfl))
    have e97 := hold 97 (unset_of (by kernel_rfl))
    have e98 := hold 98 (unset_of (by kernel_rfl))
    have e99 := hold 99 (unset_of (by kernel_rfl))
    have e100 := hold 100 (unset_of (by kernel_rfl))
    have e101 := hold 101 (unset_of (by kernel_rfl))
    have e102 := hold 102 (unset_of (by kernel_rfl))
    have e103 := hold 103 (unset_of (by kernel_rfl))
    have e104 := hold 104 (unset_of (by kernel_rfl))
    have e105 := hold 105 (unset_of (by kernel_rfl))
    have e106 := hold 106 (unset_of (by kernel_rfl))
    have e107 := hold 107 (unset_of (by kernel_rfl))
    have e108 := hold 108 (unset_of (by kernel_rfl))
    have e109 := hold 109 (unset_of (by kernel_rfl))
    have e110 := hold 110 (unset_of (by kernel_rfl))
    have e111 := hold 111 (unset_of (by kernel_rfl))
    have e112 := hold 112 (unset_of (by kernel_rfl))
    have e113 := hold 113 (unset_of (by kernel_rfl))
    have d20 : a.tmps.getD 20 undef = .int .i64 t := hdone 0 _ 20 rfl (by decide) rfl
    have d21 : a.tmps.getD 21 undef = .int .i64 r := hdone 1 _ 21 rfl (by decide) rfl
    have d22 : a.tmps.getD 22 undef = .int .i64 (1001 + r) := hdone 2 _ 22 rfl (by decide) rfl
    have d23 : a.tmps.getD 23 undef = .agg #[.string ⟨#[97]⟩, .int .i64 (1001 + r)] := hdone 3 _ 23 rfl (by decide) rfl
    have d24 : a.tmps.getD 24 undef = .iface 51 (.agg #[.string ⟨#[97]⟩, .int .i64 (1001 + r)]) := hdone 4 _ 24 rfl (by decide) rfl
    have d25 : a.tmps.getD 25 undef = .int .i64 t := hdone 5 _ 25 rfl (by decide) rfl
    have d26 : a.tmps.getD 26 undef = .int .i64 r := hdone 6 _ 26 rfl (by decide) rfl
    have d27 : a.tmps.getD 27 undef = .int .i64 (-1 - r) := hdone 7 _ 27 rfl (by decide) rfl
    have d28 : a.tmps.getD 28 undef = .agg #[.string ⟨#[97]⟩, .int .i64 (-1 - r)] := hdone 8 _ 28 rfl (by decide) rfl
    have d29 : a.tmps.getD 29 undef = .iface 51 (.agg #[.string ⟨#[97]⟩, .int .i64 (-1 - r)]) := hdone 9 _ 29 rfl (by decide) rfl
    have d30 : a.tmps.getD 30 undef = .agg #[.int .i64 0, .int .i64 1, .int .i64 0, .int .i64 0] := hdone 10 _ 30 rfl (by decide) rfl
    have d31 : a.tmps.getD 31 undef = .iface 53 (.agg #[.int .i64 0, .int .i64 1, .int .i64 0, .int .i64 0]) := hdone 11 _ 31 rfl (by decide) rfl
    have d32 : a.tmps.getD 32 undef = .int .i64 t := hdone 12 _ 32 rfl (by decide) rfl
    have d33 : a.tmps.getD 33 undef = .int .i64 r := hdone 13 _ 33 rfl (by decide) rfl
    have d34 : a.tmps.getD 34 undef = .int .i64 (65536 + r) := hdone 14 _ 34 rfl (by decide) rfl
    have d35 : a.tmps.getD 35 undef = .agg #[.int .i64 1, .int .i64 (65536 + r), .int .i64 0, .int .i64 0] := hdone 15 _ 35 rfl (by decide) rfl
    have d36 : a.tmps.getD 36 undef = .iface 53 (.agg #[.int .i64 1, .int .i64 (65536 + r), .int .i64 0, .int .i64 0]) := hdone 16 _ 36 rfl (by decide) rfl
    have d37 : a.tmps.getD 37 undef = .int .i64 t := hdone 17 _ 37 rfl (by decide) rfl
    have d38 : a.tmps.getD 38 undef = .int .i64 r := hdone 18 _ 38 rfl (by decide) rfl
    have d39 : a.tmps.getD 39 undef = .int .i64 (-1 - r) := hdone 19 _ 39 rfl (by decide) rfl
    have d40 : a.tmps.getD 40 undef = .agg #[.int .i64 1, .int .i64 0, .int .i64 (-1 - r), .int .i64 0] := hdone 20 _ 40 rfl (by decide) rfl
    have d41 : a.tmps.getD 41 undef = .iface 53 (.agg #[.int .i64 1, .int .i64 0, .int .i64 (-1 - r), .int .i64 0]) := hdone 21 _ 41 rfl (by decide) rfl
    have d42 : a.tmps.getD 42 undef = .agg #[.string ⟨#[115, 104, 111, 114, 116]⟩] := hdone 22 _ 42 rfl (by decide) rfl
    have d43 : a.tmps.getD 43 undef = .iface 55 (.agg #[.string ⟨#[115, 104, 111, 114, 116]⟩]) := hdone 23 _ 43 rfl (by decide) rfl
    have d45 : a.tmps.getD 45 undef = .string Z := hdone 25 _ 45 rfl (by decide) rfl
    have d46 : a.tmps.getD 46 undef = .int .i64 t := hdone 26 _ 46 rfl (by decide) rfl
    have d47 : a.tmps.getD 47 undef = .int .i64 r := hdone 27 _ 47 rfl (by decide) rfl
    have d48 : a.tmps.getD 48 undef = .int .i64 (113 + r) := hdone 28 _ 48 rfl (by decide) rfl
    have d49 : a.tmps.getD 49 undef = .int .i32 (113 + r) := hdone 29 _ 49 rfl (by decide) rfl
    have d50 : a.tmps.getD 50 undef = .agg #[.string Z, .int .i32 (113 + r)] := hdone 30 _ 50 rfl (by decide) rfl
    have d51 : a.tmps.getD 51 undef = .iface 58 (.agg #[.string Z, .int .i32 (113 + r)]) := hdone 31 _ 51 rfl (by decide) rfl
    have d53 : a.tmps.getD 53 undef = .string Z := hdone 33 _ 53 rfl (by decide) rfl
    have d54 : a.tmps.getD 54 undef = .int .i64 t := hdone 34 _ 54 rfl (by decide) rfl
    have d55 : a.tmps.getD 55 undef = .int .i64 r := hdone 35 _ 55 rfl (by decide) rfl
    have d56 : a.tmps.getD 56 undef = .int .i64 (11 + r) := hdone 36 _ 56 rfl (by decide) rfl
    have d57 : a.tmps.getD 57 undef = .agg #[.string Z, .int .i64 0, .int .i64 (11 + r)] := hdone 37 _ 57 rfl (by decide) rfl
    have d58 : a.tmps.getD 58 undef = .iface 60 (.agg #[.string Z, .int .i64 0, .int .i64 (11 + r)]) := hdone 38 _ 58 rfl (by decide) rfl
    have d60 : a.tmps.getD 60 undef = .string Z := hdone 40 _ 60 rfl (by decide) rfl
    have d61 : a.tmps.getD 61 undef = .int .i64 t := hdone 41 _ 61 rfl (by decide) rfl
    have d62 : a.tmps.getD 62 undef = .int .i64 r := hdone 42 _ 62 rfl (by decide) rfl
    have d63 : a.tmps.getD 63 undef = .int .i64 (268435456 + r) := hdone 43 _ 63 rfl (by decide) rfl
    have d64 : a.tmps.getD 64 undef = .agg #[.string Z, .int .i64 (268435456 + r)] := hdone 44 _ 64 rfl (by decide) rfl
    have d65 : a.tmps.getD 65 undef = .iface 62 (.agg #[.string Z, .int .i64 (268435456 + r)]) := hdone 45 _ 65 rfl (by decide) rfl
    have d66 : a.tmps.getD 66 undef = .pointer (some ⟨w.heap.size, 1, none⟩) := hdone 46 _ 66 rfl (by decide) rfl
    have d67 : a.tmps.getD 67 undef = .string nm := hdone 47 _ 67 rfl (by decide) rfl
    have d68 : a.tmps.getD 68 undef = .string (nm ++ ⟨#[46]⟩) := hdone 48 _ 68 rfl (by decide) rfl
    have d69 : a.tmps.getD 69 undef = .agg #[.string (nm ++ ⟨#[46]⟩)] := hdone 49 _ 69 rfl (by decide) rfl
    have d70 : a.tmps.getD 70 undef = .iface 64 (.agg #[.string (nm ++ ⟨#[46]⟩)]) := hdone 50 _ 70 rfl (by decide) rfl
    obtain ⟨a6, d6, r6⟩ : ∃ a', a.tmps.getD 6 undef = .slice a' 10 10 ∧ Rd wx a' XS := hdone 52 _ 6 rfl (by decide) rfl
    clear hold hdone hsz hdf hsz' hdf'
    simp only [Array.getD_eq_getD_getElem?, List.getElem?_toArray, List.getElem?_cons_succ, List.getElem?_cons_zero, Option.getD_some] at e0 e1 e2 e3 e4 e5 e7 e8 e9 e10 e11 e12 e13 e14 e15 e16 e17 e18 e19 e72 e73 e74 e75 e76 e77 e78 e79 e80 e81 e82 e83 e84 e85 e86 e87 e88 e89 e90 e91 e92 e93 e94 e95 e96 e97 e98 e99 e100 e101 e102 e103 e104 e105 e106 e107 e108 e109 e110 e111 e112 e113 d20 d21 d22 d23 d24 d25 d26 d27 d28 d29 d30 d31 d32 d33 d34 d35 d36 d37 d38 d39 d40 d41 d42 d43 d45 d46 d47 d48 d49 d50 d51 d53 d54 d55 d56 d57 d58 d60 d61 d62 d63 d64 d65 d66 d67 d68 d69 d70 d6
    simp only [show (List.range 114) = [0, 1, 2, 3, 4, 5, 6, 7, 8, 9, 10, 11, 12, 13, 14, 15, 16, 17, 18, 19, 20, 21, 22, 23, 24, 25, 26, 27, 28, 29, 30, 31, 32, 33, 34, 35, 36, 37, 38, 39, 40, 41, 42, 43, 44, 45, 46, 47, 48, 49, 50, 51, 52, 53, 54, 55, 56, 57, 58, 59, 60, 61, 62, 63, 64, 65, 66, 67, 68, 69, 70, 71, 72, 73, 74, 75, 76, 77, 78, 79, 80, 81, 82, 83, 84, 85, 86, 87, 88, 89, 90, 91, 92, 93, 94, 95, 96, 97, 98, 99, 100, 101, 102, 103, 104, 105, 106, 107, 108, 109, 110, 111, 112, 113] from rfl, List.map_cons, List.map_nil] at ha
    simp only [e0, e1, e2, e3, e4, e5, e7, e8, e9, e10, e11, e12, e13, e14, e15, e16, e17, e18, e19, e72, e73, e74, e75, e76, e77, e78, e79, e80, e81, e82, e83, e84, e85, e86, e87, e88, e89, e90, e91, e92, e93, e94, e95, e96, e97, e98, e99, e100, e101, e102, e103, e104, e105, e106, e107, e108, e109, e110, e111, e112, e113, d20, d21, d22, d23, d24, d25, d26, d27, d28, d29, d30, d31, d32, d33, d34, d35, d36, d37, d38, d39, d40, d41, d42, d43, d45, d46, d47, d48, d49, d50, d51, d53, d54, d55, d56, d57, d58, d60, d61, d62, d63, d64, d65, d66, d67, d68, d69, d70, d6] at ha
    clear e0 e1 e2 e3 e4 e5 e7 e8 e9 e10 e11 e12 e13 e14 e15 e16 e17 e18 e19 e72 e73 e74 e75 e76 e77 e78 e79 e80 e81 e82 e83 e84 e85 e86 e87 e88 e89 e90 e91 e92 e93 e94 e95 e96 e97 e98 e99 e100 e101 e102 e103 e104 e105 e106 e107 e108 e109 e110 e111 e112 e113 d20 d21 d22 d23 d24 d25 d26 d27 d28 d29 d30 d31 d32 d33 d34 d35 d36 d37 d38 d39 d40 d41 d42 d43 d45 d46 d47 d48 d49 d50 d51 d53 d54 d55 d56 d57 d58 d60 d61 d62 d63 d64 d65 d66 d67 d68 d69 d70 d6
    generalize a.tmps[44]?.getD undef = u44 at ha
    generalize a.tmps[52]?.getD undef = u52 at ha
    generalize a.tmps[59]?.getD undef = u59 at ha
    generalize a.tmps[71]?.getD undef = u71 at ha
    subst ha
    have HR := Lib.hid r6
    have HB := Lib.hid (chain BB.out hS)
    clear r6 hS
    go_wp2_with fail
    go_loopw [7] (fun i wr => ∃ j : Nat, j ≤ 10 ∧ i = .int .i64 (j : Int) ∧ Below wx.heap.size wx wr) (fun i _ => 11 - (intOf i).toNat)
    case atStart => exact ⟨0, by omega, rfl, Below.refl _ _⟩
    case round =>
      obtain ⟨j, hj, rfl, hb⟩ := hrel
      have HW := Lib.hid hb
      by_cases hlt : j < 10
      · have hji : (j : Int) < 10 := by omega
        have hjl : j < XS.length := by rw [HN.out]; exact hlt
        have IM := Lib.hid (HI.out _ (List.getElem_mem hjl))
        obtain ⟨b, off, rfl, hbl, hcell⟩ := (HR.out.below hb).at j hjl
        generalize XS[j] = x at *
        clear hb
        go_wp2_with fail
        refine (im_encode _ _ _ IM).mono ?_
        rintro e w3 ⟨rfl, b3⟩
        have hcell3 : w3.cell? ⟨b, off + j, none⟩ = some x := (b3.cell (p := ⟨b, off + j, none⟩) hbl).trans hcell
        have hbl3 := Nat.lt_of_lt_of_le hbl b3.size
        have B3 := Lib.hid (chain HW.out b3)
        clear hcell hbl b3
        go_wp2_with fail
        refine (im_bears _ _ IM).mono ?_
        rintro e w4 ⟨rfl, b3⟩
        have hcell4 : w4.cell? ⟨b, off + j, none⟩ = some x := (b3.cell (p := ⟨b, off + j, none⟩) hbl3).trans hcell3
        have hbl4 := Nat.lt_of_lt_of_le hbl3 b3.size
        have B4 := Lib.hid (chain B3.out b3)
        clear hcell3 hbl3 b3
        go_wp2_with fail
        refine (im_right _ _ IM).mono ?_
        rintro e w5 ⟨rfl, b3⟩
        have hcell5 : w5.cell? ⟨b, off + j, none⟩ = some x := (b3.cell (p := ⟨b, off + j, none⟩) hbl4).trans hcell4
        have hbl5 := Nat.lt_of_lt_of_le hbl4 b3.size
        have B5 := Lib.hid (chain B4.out b3)
        clear hcell4 hbl4 b3
        go_wp2_with fail
        refine (im_mutates _ _ IM).mono ?_
        rintro e w6 ⟨rfl, b3⟩
        have B6 := Lib.hid (chain B5.out b3)
        clear b3
        go_wp2_with fail
        go_roundw
        case rel => exact ⟨j + 1, by omega, by go_num, B6.out⟩
        case measure => simp [intOf]; omega
      · obtain rfl : j = 10 := by omega
        go_wp2_with fail
        go_ret
        exact ⟨rfl, chain HB.out HW.out⟩
set_option maxHeartbeats 6400000 in
set_option maxRecDepth 20000 in
theorem strange_n (op : Int) (nm : ByteArray) (hd : ByteArray) (to : ByteArray) (li : Int) (ob : Int) (ri : Int) (ba : Int) (ex : Int) (le : Int) (sf : Bool) (fr : Int) (mo : Int) (far t r : Int) (XS : List Value) (Z : ByteArray) (w : World) (hfar : far < 0) (ht : Hid (-(far + 1) = t)) (ht0 : 0 ≤ t) (hlo : -9223372036854775808 ≤ far) (r0 : 0 ≤ r) (r1 : r ≤ 999)
    (RM : Hid (t.tmod 1000 = r)) (RE : Hid (t % 1000 = r)) (HZ : Hid (Str (List.replicate 29 (0 : UInt8)) = Z)) (HX : Hid ([.iface 51 (.agg #[.string ⟨#[97]⟩, .int .i64 (1001 + r)]), .iface 51 (.agg #[.string ⟨#[97]⟩, .int .i64 (-1 - r)]), .iface 53 (.agg #[.int .i64 0, .int .i64 1, .int .i64 0, .int .i64 0]), .iface 53 (.agg #[.int .i64 1, .int .i64 (65536 + r), .int .i64 0, .int .i64 0]), .iface 53 (.agg #[.int .i64 1, .int .i64 0, .int .i64 (-1 - r), .int .i64 0]), .iface 55 (.agg #[.string ⟨#[115, 104, 111, 114, 116]⟩]), .iface 58 (.agg #[.string Z, .int .i32 (113 + r)]), .iface 60 (.agg #[.string Z, .int .i64 0, .int .i64 (11 + r)]), .iface 62 (.agg #[.string Z, .int .i64 (268435456 + r)]), .iface 64 (.agg #[.string (nm ++ ⟨#[46]⟩)])] = XS)) (HN : Hid (XS.length = 10)) (hnm : Hid ((9223372036854775807 < nm.size + 1) = False)) (HI : Hid (∀ x ∈ XS, Improper x)) :
    Calls Try.prog 8 #[.agg #[.int .i64 op, .string nm, .string hd, .string to, .int .i64 li, .int .i64 ob, .int .i64 ri, .int .i64 ba, .int .i64 ex, .int .i32 le, .bool sf, .int .i64 fr, .int .i64 mo], .int .i64 far] w fun e w' => e = .returned (.bool true) ∧ Below w.heap.size w w' := by
  have W1 : Hid (IntKind.i64.wrap (1001 + r) = 1001 + r) := Lib.hid (IntWalk.i64_in _ (by omega))
  have W2 : Hid (IntKind.i64.wrap (-1 - r) = -1 - r) := Lib.hid (IntWalk.i64_in _ (by omega))
  have W3 : Hid (IntKind.i64.wrap (65536 + r) = 65536 + r) := Lib.hid (IntWalk.i64_in _ (by omega))
  have W4 : Hid (IntKind.i64.wrap (113 + r) = 113 + r) := Lib.hid (IntWalk.i64_in _ (by omega))
  have W5 : Hid (IntKind.i64.wrap (11 + r) = 11 + r) := Lib.hid (IntWalk.i64_in _ (by omega))
  have W6 : Hid (IntKind.i64.wrap (268435456 + r) = 268435456 + r) := Lib.hid (IntWalk.i64_in _ (by omega))
  have W7 : Hid (IntKind.i64.wrap r = r) := Lib.hid (IntWalk.i64_in _ (by omega))
  have W8 : Hid (IntKind.i32.wrap (113 + r) = 113 + r) := Lib.hid (by rw [IntKind.wrap_i32]; omega)
  go_enter Try.func8, Try.ntmps8
  go_wp2_with fail
  refine (examples_any _).mono ?_
  rintro e w1 ⟨rfl, b1⟩
  have K1 : w1.heap[w.heap.size]? = some (.cells #[.int .i64 op, .string nm, .string hd, .string to, .int .i64 li, .int .i64 ob, .int .i64 ri, .int .i64 ba, .int .i64 ex, .int .i32 le, .bool sf, .int .i64 fr, .int .i64 mo] 34) := kept1 b1
  have BB := Lib.hid (((Below.refl _ _).alloc (Nat.le_refl _) _).trans (b1.mono (by simp)) : Below w.heap.size w w1)
  have lt0 : w.heap.size < w1.heap.size := (Array.getElem?_eq_some_iff.1 K1).1
  have c1 : w1.cell? ⟨w.heap.size, 1, none⟩ = some (.string nm) := by rw [Go.Joins.cell_of_block K1]; rfl
  clear b1 K1
  go_wp2_with fail
  rw [ht.out]
  refine region_kit 99 114 [eqV (.int .i64 t), eqV (.int .i64 (r)), eqV (.int .i64 (1001 + r)), eqV (.agg #[.string ⟨#[97]⟩, .int .i64 (1001 + r)]), eqV (.iface 51 (.agg #[.string ⟨#[97]⟩, .int .i64 (1001 + r)])), eqV (.int .i64 t), eqV (.int .i64 (r)), eqV (.int .i64 (-1 - r)), eqV (.agg #[.string ⟨#[97]⟩, .int .i64 (-1 - r)]), eqV (.iface 51 (.agg #[.string ⟨#[97]⟩, .int .i64 (-1 - r)])), eqV (.agg #[.int .i64 0, .int .i64 1, .int .i64 0, .int .i64 0]), eqV (.iface 53 (.agg #[.int .i64 0, .int .i64 1, .int .i64 0, .int .i64 0])), eqV (.int .i64 t), eqV (.int .i64 (r)), eqV (.int .i64 (65536 + r)), eqV (.agg #[.int .i64 1, .int .i64 (65536 + r), .int .i64 0, .int .i64 0]), eqV (.iface 53 (.agg #[.int .i64 1, .int .i64 (65536 + r), .int .i64 0, .int .i64 0])), eqV (.int .i64 t), eqV (.int .i64 (r)), eqV (.int .i64 (-1 - r)), eqV (.agg #[.int .i64 1, .int .i64 0, .int .i64 (-1 - r), .int .i64 0]), eqV (.iface 53 (.agg #[.int .i64 1, .int .i64 0, .int .i64 (-1 - r), .int .i64 0])), eqV (.agg #[.string ⟨#[115, 104, 111, 114, 116]⟩]), eqV (.iface 55 (.agg #[.string ⟨#[115, 104, 111, 114, 116]⟩])), zerosV, eqV (.string Z), eqV (.int .i64 t), eqV (.int .i64 (r)), eqV (.int .i64 (113 + r)), eqV (.int .i32 (113 + r)), eqV (.agg #[.string Z, .int .i32 (113 + r)]), eqV (.iface 58 (.agg #[.string Z, .int .i32 (113 + r)])), zerosV, eqV (.string Z), eqV (.int .i64 t), eqV (.int .i64 (r)), eqV (.int .i64 (11 + r)), eqV (.agg #[.string Z, .int .i64 0, .int .i64 (11 + r)]), eqV (.iface 60 (.agg #[.string Z, .int .i64 0, .int .i64 (11 + r)])), zerosV, eqV (.string Z), eqV (.int .i64 t), eqV (.int .i64 (r)), eqV (.int .i64 (268435456 + r)), eqV (.agg #[.string Z, .int .i64 (268435456 + r)]), eqV (.iface 62 (.agg #[.string Z, .int .i64 (268435456 + r)])), eqV (.pointer (some ⟨w.heap.size, 1, none⟩)), eqV (.string nm), eqV (.string (nm ++ ⟨#[46]⟩)), eqV (.agg #[.string (nm ++ ⟨#[46]⟩)]), eqV (.iface 64 (.agg #[.string (nm ++ ⟨#[46]⟩)])), tenV XS, tenV XS] (by kernel_rfl) (by kernel_rfl) (by rfl) ?owes ?ends
  case owes =>
    refine OwesAll.cons (k := 0) ?_ ?_
    · intro o ho a wx hS hold hdep K hK
      simp only [List.getElem?_toArray, List.getElem?_cons_succ, List.getElem?_cons_zero, Option.some.injEq] at ho
      subst ho
      have HK := Lib.hid hK
      clear hK
      have d1 : a.tmps.getD 1 undef = .int .i64 t := hold 1 (unset_of (by kernel_rfl))
      clear hold hdep
      rw [Array.getD_eq_getD_getElem?] at d1
      rw [if_pos (by rfl)]
      go_simp
      exact HK.out _ _ rfl (Below.refl _ _)
    refine OwesAll.cons (k := 1) ?_ ?_
    · intro o ho a wx hS hold hdep K hK
      simp only [List.getElem?_toArray, List.getElem?_cons_succ, List.getElem?_cons_zero, Option.some.injEq] at ho
      subst ho
      have HK := Lib.hid hK
      clear hK
      have d20 : a.tmps.getD 20 undef = .int .i64 t := dep_at hdep 0 rfl rfl (by kernel_rfl)
      clear hold hdep
      rw [Array.getD_eq_getD_getElem?] at d20
      rw [if_pos (by rfl)]
      go_simp
      refine HK.out _ _ ?_ (Below.refl _ _)
      show _ = _
      first | rfl | simp only [RM.out, RE.out, W1.out, W2.out, W3.out, W4.out, W5.out, W6.out, W7.out]
    refine OwesAll.cons (k := 2) ?_ ?_
    · intro o ho a wx hS hold hdep K hK
      simp only [List.getElem?_toArray, List.getElem?_cons_succ, List.getElem?_cons_zero, Option.some.injEq] at ho
      subst ho
      have HK := Lib.hid hK
      clear hK
      have d21 : a.tmps.getD 21 undef = .int .i64 (r) := dep_at hdep 1 rfl rfl (by kernel_rfl)
      clear hold hdep
      rw [Array.getD_eq_getD_getElem?] at d21
      rw [if_pos (by rfl)]
      go_simp
      refine HK.out _ _ ?_ (Below.refl _ _)
      show _ = _
      first | rfl | simp only [RM.out, RE.out, W1.out, W2.out, W3.out, W4.out, W5.out, W6.out, W7.out]
    refine OwesAll.cons (k := 3) ?_ ?_
    · intro o ho a wx hS hold hdep K hK
      simp only [List.getElem?_toArray, List.getElem?_cons_succ, List.getElem?_cons_zero, Option.some.injEq] at ho
      subst ho
      have HK := Lib.hid hK
      clear hK
      have d22 : a.tmps.getD 22 undef = .int .i64 (1001 + r) := dep_at hdep 2 rfl rfl (by kernel_rfl)
      clear hold hdep
      rw [Array.getD_eq_getD_getElem?] at d22
      rw [if_pos (by rfl)]
      go_simp
      exact HK.out _ _ rfl (Below.refl _ _)
    refine OwesAll.cons (k := 4) ?_ ?_
    · intro o ho a wx hS hold hdep K hK
      simp only [List.getElem?_toArray, List.getElem?_cons_succ, List.getElem?_cons_zero, Option.some.injEq] at ho
      subst ho
      have HK := Lib.hid hK
      clear hK
      have d23 : a.tmps.getD 23 undef = .agg #[.string ⟨#[97]⟩, .int .i64 (1001 + r)] := dep_at hdep 3 rfl rfl (by kernel_rfl)
      clear hold hdep
      rw [Array.getD_eq_getD_getElem?] at d23
      rw [if_pos (by rfl)]
      go_simp
      exact HK.out _ _ rfl (Below.refl _ _)
    refine OwesAll.cons (k := 5) ?_ ?_
    · intro o ho a wx hS hold hdep K hK
      simp only [List.getElem?_toArray, List.getElem?_cons_succ, List.getElem?_cons_zero, Option.some.injEq] at ho
      subst ho
      have HK := Lib.hid hK
      clear hK
      have d1 : a.tmps.getD 1 undef = .int .i64 t := hold 1 (unset_of (by kernel_rfl))
      clear hold hdep
      rw [Array.getD_eq_getD_getElem?] at d1
      rw [if_pos (by rfl)]
      go_simp
      exact HK.out _ _ rfl (Below.refl _ _)
    refine OwesAll.cons (k := 6) ?_ ?_
    · intro o ho a wx hS hold hdep K hK
      simp only [List.getElem?_toArray, List.getElem?_cons_succ, List.getElem?_cons_zero, Option.some.injEq] at ho
      subst ho
      have HK := Lib.hid hK
      clear hK
      have d25 : a.tmps.getD 25 undef = .int .i64 t := dep_at hdep 5 rfl rfl (by kernel_rfl)
      clear hold hdep
      rw [Array.getD_eq_getD_getElem?] at d25
      rw [if_pos (by rfl)]
      go_simp
      refine HK.out _ _ ?_ (Below.refl _ _)
      show _ = _
      first | rfl | simp only [RM.out, RE.out, W1.out, W2.out, W3.out, W4.out, W5.out, W6.out, W7.out]
    refine OwesAll.cons (k := 7) ?_ ?_
    · intro o ho a wx hS hold hdep K hK
      simp only [List.getElem?_toArray, List.getElem?_cons_succ, List.getElem?_cons_zero, Option.some.injEq] at ho
      subst ho
      have HK := Lib.hid hK
      clear hK
      have d26 : a.tmps.getD 26 undef = .int .i64 (r) := dep_at hdep 6 rfl rfl (by kernel_rfl)
      clear hold hdep
      rw [Array.getD_eq_getD_getElem?] at d26
      rw [if_pos (by rfl)]
      go_simp
      refine HK.out _ _ ?_ (Below.refl _ _)
      show _ = _
      first | rfl | simp only [RM.out, RE.out, W1.out, W2.out, W3.out, W4.out, W5.out, W6.out, W7.out]
    refine OwesAll.cons (k := 8) ?_ ?_
    · intro o ho a wx hS hold hdep K hK
      simp only [List.getElem?_toArray, List.getElem?_cons_succ, List.getElem?_cons_zero, Option.some.injEq] at ho
      subst ho
      have HK := Lib.hid hK
      clear hK
      have d27 : a.tmps.getD 27 undef = .int .i64 (-1 - r) := dep_at hdep 7 rfl rfl (by kernel_rfl)
      clear hold hdep
      rw [Array.getD_eq_getD_getElem?] at d27
      rw [if_pos (by rfl)]
      go_simp
      exact HK.out _ _ rfl (Below.refl _ _)
    refine OwesAll.cons (k := 9) ?_ ?_
    · intro o ho a wx hS hold hdep K hK
      simp only [List.getElem?_toArray, List.getElem?_cons_succ, List.getElem?_cons_zero, Option.some.injEq] at ho
      subst ho
      have HK := Lib.hid hK
      clear hK
      have d28 : a.tmps.getD 28 undef = .agg #[.string ⟨#[97]⟩, .int .i64 (-1 - r)] := dep_at hdep 8 rfl rfl (by kernel_rfl)
      clear hold hdep
      rw [Array.getD_eq_getD_getElem?] at d28
      rw [if_pos (by rfl)]
      go_simp
      exact HK.out _ _ rfl (Below.refl _ _)
    refine OwesAll.cons (k := 10) ?_ ?_
    · intro o ho a wx hS hold hdep K hK
      simp only [List.getElem?_toArray, List.getElem?_cons_succ, List.getElem?_cons_zero, Option.some.injEq] at ho
      subst ho
      have HK := Lib.hid hK
      clear hK
      clear hold hdep
      rw [if_pos (by rfl)]
      go_simp
      exact HK.out _ _ rfl (Below.refl _ _)
    refine OwesAll.cons (k := 11) ?_ ?_
    · intro o ho a wx hS hold hdep K hK
      simp only [List.getElem?_toArray, List.getElem?_cons_succ, List.getElem?_cons_zero, Option.some.injEq] at ho
      subst ho
      have HK := Lib.hid hK
      clear hK
      have d30 : a.tmps.getD 30 undef = .agg #[.int .i64 0, .int .i64 1, .int .i64 0, .int .i64 0] := dep_at hdep 10 rfl rfl (by kernel_rfl)
      clear hold hdep
      rw [Array.getD_eq_getD_getElem?] at d30
      rw [if_pos (by rfl)]
      go_simp
      exact HK.out _ _ rfl (Below.refl _ _)
    refine OwesAll.cons (k := 12) ?_ ?_
    · intro o ho a wx hS hold hdep K hK
      simp only [List.getElem?_toArray, List.getElem?_cons_succ, List.getElem?_cons_zero, Option.some.injEq] at ho
      subst ho
      have HK := Lib.hid hK
      clear hK
      have d1 : a.tmps.getD 1 undef = .int .i64 t := hold 1 (unset_of (by kernel_rfl))
      clear hold hdep
      rw [Array.getD_eq_getD_getElem?] at d1
      rw [if_pos (by rfl)]
      go_simp
      exact HK.out _ _ rfl (Below.refl _ _)
    refine OwesAll.cons (k := 13) ?_ ?_
    · intro o ho a wx hS hold hdep K hK
      simp only [List.getElem?_toArray, List.getElem?_cons_succ, List.getElem?_cons_zero, Option.some.injEq] at ho
      subst ho
      have HK := Lib.hid hK
      clear hK
      have d32 : a.tmps.getD 32 undef = .int .i64 t := dep_at hdep 12 rfl rfl (by kernel_rfl)
      clear hold hdep
      rw [Array.getD_eq_getD_getElem?] at d32
      rw [if_pos (by rfl)]
      go_simp
      refine HK.out _ _ ?_ (Below.refl _ _)
      show _ = _
      first | rfl | simp only [RM.out, RE.out, W1.out, W2.out, W3.out, W4.out, W5.out, W6.out, W7.out]
    refine OwesAll.cons (k := 14) ?_ ?_
    · intro o ho a wx hS hold hdep K hK
      simp only [List.getElem?_toArray, List.getElem?_cons_succ, List.getElem?_cons_zero, Option.some.injEq] at ho
      subst ho
      have HK := Lib.hid hK
      clear hK
      have d33 : a.tmps.getD 33 undef = .int .i64 (r) := dep_at hdep 13 rfl rfl (by kernel_rfl)
      clear hold hdep
      rw [Array.getD_eq_getD_getElem?] at d33
      rw [if_pos (by rfl)]
      go_simp
      refine HK.out _ _ ?_ (Below.refl _ _)
      show _ = _
      first | rfl | simp only [RM.out, RE.out, W1.out, W2.out, W3.out, W4.out, W5.out, W6.out, W7.out]
    refine OwesAll.cons (k := 15) ?_ ?_
    · intro o ho a wx hS hold hdep K hK
      simp only [List.getElem?_toArray, List.getElem?_cons_succ, List.getElem?_cons_zero, Option.some.injEq] at ho
      subst ho
      have HK := Lib.hid hK
      clear hK
      have d34 : a.tmps.getD 34 undef = .int .i64 (65536 + r) := dep_at hdep 14 rfl rfl (by kernel_rfl)
      clear hold hdep
      rw [Array.getD_eq_getD_getElem?] at d34
      rw [if_pos (by rfl)]
      go_simp
      exact HK.out _ _ rfl (Below.refl _ _)
    refine OwesAll.cons (k := 16) ?_ ?_
    · intro o ho a wx hS hold hdep K hK
      simp only [List.getElem?_toArray, List.getElem?_cons_succ, List.getElem?_cons_zero, Option.some.injEq] at ho
      subst ho
      have HK := Lib.hid hK
      clear hK
      have d35 : a.tmps.getD 35 undef = .agg #[.int .i64 1, .int .i64 (65536 + r), .int .i64 0, .int .i64 0] := dep_at hdep 15 rfl rfl (by kernel_rfl)
      clear hold hdep
      rw [Array.getD_eq_getD_getElem?] at d35
      rw [if_pos (by rfl)]
      go_simp
      exact HK.out _ _ rfl (Below.refl _ _)
    refine OwesAll.cons (k := 17) ?_ ?_
    · intro o ho a wx hS hold hdep K hK
      simp only [List.getElem?_toArray, List.getElem?_cons_succ, List.getElem?_cons_zero, Option.some.injEq] at ho
      subst ho
      have HK := Lib.hid hK
      clear hK
      have d1 : a.tmps.getD 1 undef = .int .i64 t := hold 1 (unset_of (by kernel_rfl))
      clear hold hdep
      rw [Array.getD_eq_getD_getElem?] at d1
      rw [if_pos (by rfl)]
      go_simp
      exact HK.out _ _ rfl (Below.refl _ _)
    refine OwesAll.cons (k := 18) ?_ ?_
    · intro o ho a wx hS hold hdep K hK
      simp only [List.getElem?_toArray, List.getElem?_cons_succ, List.getElem?_cons_zero, Option.some.injEq] at ho
      subst ho
      have HK := Lib.hid hK
      clear hK
      have d37 : a.tmps.getD 37 undef = .int .i64 t := dep_at hdep 17 rfl rfl (by kernel_rfl)
      clear hold hdep
      rw [Array.getD_eq_getD_getElem?] at d37
      rw [if_pos (by rfl)]
      go_simp
      refine HK.out _ _ ?_ (Below.refl _ _)
      show _ = _
      first | rfl | simp only [RM.out, RE.out, W1.out, W2.out, W3.out, W4.out, W5.out, W6.out, W7.out]
    refine OwesAll.cons (k := 19) ?_ ?_
    · intro o ho a wx hS hold hdep K hK
      simp only [List.getElem?_toArray, List.getElem?_cons_succ, List.getElem?_cons_zero, Option.some.injEq] at ho
      subst ho
      have HK := Lib.hid hK
      clear hK
      have d38 : a.tmps.getD 38 undef = .int .i64 (r) := dep_at hdep 18 rfl rfl (by kernel_rfl)
      clear hold hdep
      rw [Array.getD_eq_getD_getElem?] at d38
      rw [if_pos (by rfl)]
      go_simp
      refine HK.out _ _ ?_ (Below.refl _ _)
      show _ = _
      first | rfl | simp only [RM.out, RE.out, W1.out, W2.out, W3.out, W4.out, W5.out, W6.out, W7.out]
    refine OwesAll.cons (k := 20) ?_ ?_
    · intro o ho a wx hS hold hdep K hK
      simp only [List.getElem?_toArray, List.getElem?_cons_succ, List.getElem?_cons_zero, Option.some.injEq] at ho
      subst ho
      have HK := Lib.hid hK
      clear hK
      have d39 : a.tmps.getD 39 undef = .int .i64 (-1 - r) := dep_at hdep 19 rfl rfl (by kernel_rfl)
      clear hold hdep
      rw [Array.getD_eq_getD_getElem?] at d39
      rw [if_pos (by rfl)]
      go_simp
      exact HK.out _ _ rfl (Below.refl _ _)
    refine OwesAll.cons (k := 21) ?_ ?_
    · intro o ho a wx hS hold hdep K hK
      simp only [List.getElem?_toArray, List.getElem?_cons_succ, List.getElem?_cons_zero, Option.some.injEq] at ho
      subst ho
      have HK := Lib.hid hK
      clear hK
      have d40 : a.tmps.getD 40 undef = .agg #[.int .i64 1, .int .i64 0, .int .i64 (-1 - r), .int .i64 0] := dep_at hdep 20 rfl rfl (by kernel_rfl)
      clear hold hdep
      rw [Array.getD_eq_getD_getElem?] at d40
      rw [if_pos (by rfl)]
      go_simp
      exact HK.out _ _ rfl (Below.refl _ _)
    refine OwesAll.cons (k := 22) ?_ ?_
    · intro o ho a wx hS hold hdep K hK
      simp only [List.getElem?_toArray, List.getElem?_cons_succ, List.getElem?_cons_zero, Option.some.injEq] at ho
      subst ho
      have HK := Lib.hid hK
      clear hK
      clear hold hdep
      rw [if_pos (by rfl)]
      go_simp
      exact HK.out _ _ rfl (Below.refl _ _)
    refine OwesAll.cons (k := 23) ?_ ?_
    · intro o ho a wx hS hold hdep K hK
      simp only [List.getElem?_toArray, List.getElem?_cons_succ, List.getElem?_cons_zero, Option.some.injEq] at ho
      subst ho
      have HK := Lib.hid hK
      clear hK
      have d42 : a.tmps.getD 42 undef = .agg #[.string ⟨#[115, 104, 111, 114, 116]⟩] := dep_at hdep 22 rfl rfl (by kernel_rfl)
      clear hold hdep
      rw [Array.getD_eq_getD_getElem?] at d42
      rw [if_pos (by rfl)]
      go_simp
      exact HK.out _ _ rfl (Below.refl _ _)
    refine OwesAll.cons (k := 24) ?_ ?_
    · intro o ho a wx hS hold hdep K hK
      simp only [List.getElem?_toArray, List.getElem?_cons_succ, List.getElem?_cons_zero, Option.some.injEq] at ho
      subst ho
      have HK := Lib.hid hK
      clear hK
      clear hold hdep
      obtain ⟨w3, hmk, hrow, hbel⟩ := made_bytes wx 29 29 (Nat.le_refl _) (by decide)
      have hmk' : (Instr.makeSlice 56 (.int .i64 29) (.int .i64 29)).run Try.prog wx = .ok (.slice (some ⟨wx.heap.size, 0, none⟩) 29 29) w3 := hmk
      clear hmk
      rw [if_pos (by rfl)]
      go_simp
      exact HK.out _ _ ⟨_, rfl, hrow⟩ hbel
    refine OwesAll.cons (k := 25) ?_ ?_
    · intro o ho a wx hS hold hdep K hK
      simp only [List.getElem?_toArray, List.getElem?_cons_succ, List.getElem?_cons_zero, Option.some.injEq] at ho
      subst ho
      have HK := Lib.hid hK
      clear hK
      obtain ⟨g44, d44, z44⟩ : ∃ g, a.tmps.getD 44 undef = .slice (some ⟨g, 0, none⟩) 29 29 ∧ Byt 5 wx g (List.replicate 29 0) := dep_at hdep 24 rfl rfl (by kernel_rfl)
      clear hold hdep
      rw [Array.getD_eq_getD_getElem?] at d44
      have hcv := z44.conv 29 29 (by rw [List.length_replicate]; exact Nat.le_refl _)
      rw [List.take_of_length_le (by rw [List.length_replicate]; exact Nat.le_refl _), HZ.out] at hcv
      have hcv' : (convert 56 9 (.slice (some ⟨g44, 0, none⟩) 29 29)).run Try.prog wx = .ok (.string Z) wx := hcv
      clear hcv
      rw [if_pos (by rfl)]
      go_simp
      exact HK.out _ _ rfl (Below.refl _ _)
    refine OwesAll.cons (k := 26) ?_ ?_
    · intro o ho a wx hS hold hdep K hK
      simp only [List.getElem?_toArray, List.getElem?_cons_succ, List.getElem?_cons_zero, Option.some.injEq] at ho
      subst ho
      have HK := Lib.hid hK
      clear hK
      have d1 : a.tmps.getD 1 undef = .int .i64 t := hold 1 (unset_of (by kernel_rfl))
      clear hold hdep
      rw [Array.getD_eq_getD_getElem?] at d1
      rw [if_pos (by rfl)]
      go_simp
      exact HK.out _ _ rfl (Below.refl _ _)
    refine OwesAll.cons (k := 27) ?_ ?_
    · intro o ho a wx hS hold hdep K hK
      simp only [List.getElem?_toArray, List.getElem?_cons_succ, List.getElem?_cons_zero, Option.some.injEq] at ho
      subst ho
      have HK := Lib.hid hK
      clear hK
      have d46 : a.tmps.getD 46 undef = .int .i64 t := dep_at hdep 26 rfl rfl (by kernel_rfl)
      clear hold hdep
      rw [Array.getD_eq_getD_getElem?] at d46
      rw [if_pos (by rfl)]
      go_simp
      refine HK.out _ _ ?_ (Below.refl _ _)
      show _ = _
      first | rfl | simp only [RM.out, RE.out, W1.out, W2.out, W3.out, W4.out, W5.out, W6.out, W7.out]
    refine OwesAll.cons (k := 28) ?_ ?_
    · intro o ho a wx hS hold hdep K hK
      simp only [List.getElem?_toArray, List.getElem?_cons_succ, List.getElem?_cons_zero, Option.some.injEq] at ho
      subst ho
      have HK := Lib.hid hK
      clear hK
      have d47 : a.tmps.getD 47 undef = .int .i64 (r) := dep_at hdep 27 rfl rfl (by kernel_rfl)
      clear hold hdep
      rw [Array.getD_eq_getD_getElem?] at d47
      rw [if_pos (by rfl)]
      go_simp
      refine HK.out _ _ ?_ (Below.refl _ _)
      show _ = _
      first | rfl | simp only [RM.out, RE.out, W1.out, W2.out, W3.out, W4.out, W5.out, W6.out, W7.out]
    refine OwesAll.cons (k := 29) ?_ ?_
    · intro o ho a wx hS hold hdep K hK
      simp only [List.getElem?_toArray, List.getElem?_cons_succ, List.getElem?_cons_zero, Option.some.injEq] at ho
      subst ho
      have HK := Lib.hid hK
      clear hK
      have d48 : a.tmps.getD 48 undef = .int .i64 (113 + r) := dep_at hdep 28 rfl rfl (by kernel_rfl)
      clear hold hdep
      rw [Array.getD_eq_getD_getElem?] at d48
      rw [if_pos (by rfl)]
      go_simp
      refine HK.out _ _ ?_ (Below.refl _ _)
      show _ = _
      first | rfl | simp only [W8.out]
    refine OwesAll.cons (k := 30) ?_ ?_
    · intro o ho a wx hS hold hdep K hK
      simp only [List.getElem?_toArray, List.getElem?_cons_succ, List.getElem?_cons_zero, Option.some.injEq] at ho
      subst ho
      have HK := Lib.hid hK
      clear hK
      have d45 : a.tmps.getD 45 undef = .string Z := dep_at hdep 25 rfl rfl (by kernel_rfl)
      have d49 : a.tmps.getD 49 undef = .int .i32 (113 + r) := dep_at hdep 29 rfl rfl (by kernel_rfl)
      clear hold hdep
      rw [Array.getD_eq_getD_getElem?] at d45
      rw [Array.getD_eq_getD_getElem?] at d49
      rw [if_pos (by rfl)]
      go_simp
      exact HK.out _ _ rfl (Below.refl _ _)
    refine OwesAll.cons (k := 31) ?_ ?_
    · intro o ho a wx hS hold hdep K hK
      simp only [List.getElem?_toArray, List.getElem?_cons_succ, List.getElem?_cons_zero, Option.some.injEq] at ho
      subst ho
      have HK := Lib.hid hK
      clear hK
      have d50 : a.tmps.getD 50 undef = .agg #[.string Z, .int .i32 (113 + r)] := dep_at hdep 30 rfl rfl (by kernel_rfl)
      clear hold hdep
      rw [Array.getD_eq_getD_getElem?] at d50
      rw [if_pos (by rfl)]
      go_simp
      exact HK.out _ _ rfl (Below.refl _ _)
    refine OwesAll.cons (k := 32) ?_ ?_
    · intro o ho a wx hS hold hdep K hK
      simp only [List.getElem?_toArray, List.getElem?_cons_succ, List.getElem?_cons_zero, Option.some.injEq] at ho
      subst ho
      have HK := Lib.hid hK
      clear hK
      clear hold hdep
      obtain ⟨w3, hmk, hrow, hbel⟩ := made_bytes wx 29 29 (Nat.le_refl _) (by decide)
      have hmk' : (Instr.makeSlice 56 (.int .i64 29) (.int .i64 29)).run Try.prog wx = .ok (.slice (some ⟨wx.heap.size, 0, none⟩) 29 29) w3 := hmk
      clear hmk
      rw [if_pos (by rfl)]
      go_simp
      exact HK.out _ _ ⟨_, rfl, hrow⟩ hbel
    refine OwesAll.cons (k := 33) ?_ ?_
    · intro o ho a wx hS hold hdep K hK
      simp only [List.getElem?_toArray, List.getElem?_cons_succ, List.getElem?_cons_zero, Option.some.injEq] at ho
      subst ho
      have HK := Lib.hid hK
      clear hK
      obtain ⟨g52, d52, z52⟩ : ∃ g, a.tmps.getD 52 undef = .slice (some ⟨g, 0, none⟩) 29 29 ∧ Byt 5 wx g (List.replicate 29 0) := dep_at hdep 32 rfl rfl (by kernel_rfl)
      clear hold hdep
      rw [Array.getD_eq_getD_getElem?] at d52
      have hcv := z52.conv 29 29 (by rw [List.length_replicate]; exact Nat.le_refl _)
      rw [List.take_of_length_le (by rw [List.length_replicate]; exact Nat.le_refl _), HZ.out] at hcv
      have hcv' : (convert 56 9 (.slice (some ⟨g52, 0, none⟩) 29 29)).run Try.prog wx = .ok (.string Z) wx := hcv
      clear hcv
      rw [if_pos (by rfl)]
      go_simp
      exact HK.out _ _ rfl (Below.refl _ _)
    refine OwesAll.cons (k := 34) ?_ ?_
    · intro o ho a wx hS hold hdep K hK
      simp only [List.getElem?_toArray, List.getElem?_cons_succ, List.getElem?_cons_zero, Option.some.injEq] at ho
      subst ho
      have HK := Lib.hid hK
      clear hK
      have d1 : a.tmps.getD 1 undef = .int .i64 t := hold 1 (unset_of (by kernel_rfl))
      clear hold hdep
      rw [Array.getD_eq_getD_getElem?] at d1
      rw [if_pos (by rfl)]
      go_simp
      exact HK.out _ _ rfl (Below.refl _ _)
    refine OwesAll.cons (k := 35) ?_ ?_
    · intro o ho a wx hS hold hdep K hK
      simp only [List.getElem?_toArray, List.getElem?_cons_succ, List.getElem?_cons_zero, Option.some.injEq] at ho
      subst ho
      have HK := Lib.hid hK
      clear hK
      have d54 : a.tmps.getD 54 undef = .int .i64 t := dep_at hdep 34 rfl rfl (by kernel_rfl)
      clear hold hdep
      rw [Array.getD_eq_getD_getElem?] at d54
      rw [if_pos (by rfl)]
      go_simp
      refine HK.out _ _ ?_ (Below.refl _ _)
      show _ = _
      first | rfl | simp only [RM.out, RE.out, W1.out, W2.out, W3.out, W4.out, W5.out, W6.out, W7.out]
    refine OwesAll.cons (k := 36) ?_ ?_
    · intro o ho a wx hS hold hdep K hK
      simp only [List.getElem?_toArray, List.getElem?_cons_succ, List.getElem?_cons_zero, Option.some.injEq] at ho
      subst ho
      have HK := Lib.hid hK
      clear hK
      have d55 : a.tmps.getD 55 undef = .int .i64 (r) := dep_at hdep 35 rfl rfl (by kernel_rfl)
      clear hold hdep
      rw [Array.getD_eq_getD_getElem?] at d55
      rw [if_pos (by rfl)]
      go_simp
      refine HK.out _ _ ?_ (Below.refl _ _)
      show _ = _
      first | rfl | simp only [RM.out, RE.out, W1.out, W2.out, W3.out, W4.out, W5.out, W6.out, W7.out]
    refine OwesAll.cons (k := 37) ?_ ?_
    · intro o ho a wx hS hold hdep K hK
      simp only [List.getElem?_toArray, List.getElem?_cons_succ, List.getElem?_cons_zero, Option.some.injEq] at ho
      subst ho
      have HK := Lib.hid hK
      clear hK
      have d53 : a.tmps.getD 53 undef = .string Z := dep_at hdep 33 rfl rfl (by kernel_rfl)
      have d56 : a.tmps.getD 56 undef = .int .i64 (11 + r) := dep_at hdep 36 rfl rfl (by kernel_rfl)
      clear hold hdep
      rw [Array.getD_eq_getD_getElem?] at d53
      rw [Array.getD_eq_getD_getElem?] at d56
      rw [if_pos (by rfl)]
      go_simp
      exact HK.out _ _ rfl (Below.refl _ _)
    refine OwesAll.cons (k := 38) ?_ ?_
    · intro o ho a wx hS hold hdep K hK
      simp only [List.getElem?_toArray, List.getElem?_cons_succ, List.getElem?_cons_zero, Option.some.injEq] at ho
      subst ho
      have HK := Lib.hid hK
      clear hK
      have d57 : a.tmps.getD 57 undef = .agg #[.string Z, .int .i64 0, .int .i64 (11 + r)] := dep_at hdep 37 rfl rfl (by kernel_rfl)
      clear hold hdep
      rw [Array.getD_eq_getD_getElem?] at d57
      rw [if_pos (by rfl)]
      go_simp
      exact HK.out _ _ rfl (Below.refl _ _)
    refine OwesAll.cons (k := 39) ?_ ?_
    · intro o ho a wx hS hold hdep K hK
      simp only [List.getElem?_toArray, List.getElem?_cons_succ, List.getElem?_cons_zero, Option.some.injEq] at ho
      subst ho
      have HK := Lib.hid hK
      clear hK
      clear hold hdep
      obtain ⟨w3, hmk, hrow, hbel⟩ := made_bytes wx 29 29 (Nat.le_refl _) (by decide)
      have hmk' : (Instr.makeSlice 56 (.int .i64 29) (.int .i64 29)).run Try.prog wx = .ok (.slice (some ⟨wx.heap.size, 0, none⟩) 29 29) w3 := hmk
      clear hmk
      rw [if_pos (by rfl)]
      go_simp
      exact HK.out _ _ ⟨_, rfl, hrow⟩ hbel
    refine OwesAll.cons (k := 40) ?_ ?_
    · intro o ho a wx hS hold hdep K hK
      simp only [List.getElem?_toArray, List.getElem?_cons_succ, List.getElem?_cons_zero, Option.some.injEq] at ho
      subst ho
      have HK := Lib.hid hK
      clear hK
      obtain ⟨g59, d59, z59⟩ : ∃ g, a.tmps.getD 59 undef = .slice (some ⟨g, 0, none⟩) 29 29 ∧ Byt 5 wx g (List.replicate 29 0) := dep_at hdep 39 rfl rfl (by kernel_rfl)
      clear hold hdep
      rw [Array.getD_eq_getD_getElem?] at d59
      have hcv := z59.conv 29 29 (by rw [List.length_replicate]; exact Nat.le_refl _)
      rw [List.take_of_length_le (by rw [List.length_replicate]; exact Nat.le_refl _), HZ.out] at hcv
      have hcv' : (convert 56 9 (.slice (some ⟨g59, 0, none⟩) 29 29)).run Try.prog wx = .ok (.string Z) wx := hcv
      clear hcv
      rw [if_pos (by rfl)]
      go_simp
      exact HK.out _ _ rfl (Below.refl _ _)
    refine OwesAll.cons (k := 41) ?_ ?_
    · intro o ho a wx hS hold hdep K hK
      simp only [List.getElem?_toArray, List.getElem?_cons_succ, List.getElem?_cons_zero, Option.some.injEq] at ho
      subst ho
      have HK := Lib.hid hK
      clear hK
      have d1 : a.tmps.getD 1 undef = .int .i64 t := hold 1 (unset_of (by kernel_rfl))
      clear hold hdep
      rw [Array.getD_eq_getD_getElem?] at d1
      rw [if_pos (by rfl)]
      go_simp
      exact HK.out _ _ rfl (Below.refl _ _)
    refine OwesAll.cons (k := 42) ?_ ?_
    · intro o ho a wx hS hold hdep K hK
      simp only [List.getElem?_toArray, List.getElem?_cons_succ, List.getElem?_cons_zero, Option.some.injEq] at ho
      subst ho
      have HK := Lib.hid hK
      clear hK
      have d61 : a.tmps.getD 61 undef = .int .i64 t := dep_at hdep 41 rfl rfl (by kernel_rfl)
      clear hold hdep
      rw [Array.getD_eq_getD_getElem?] at d61
      rw [if_pos (by rfl)]
      go_simp
      refine HK.out _ _ ?_ (Below.refl _ _)
      show _ = _
      first | rfl | simp only [RM.out, RE.out, W1.out, W2.out, W3.out, W4.out, W5.out, W6.out, W7.out]
    refine OwesAll.cons (k := 43) ?_ ?_
    · intro o ho a wx hS hold hdep K hK
      simp only [List.getElem?_toArray, List.getElem?_cons_succ, List.getElem?_cons_zero, Option.some.injEq] at ho
      subst ho
      have HK := Lib.hid hK
      clear hK
      have d62 : a.tmps.getD 62 undef = .int .i64 (r) := dep_at hdep 42 rfl rfl (by kernel_rfl)
      clear hold hdep
      rw [Array.getD_eq_getD_getElem?] at d62
      rw [if_pos (by rfl)]
      go_simp
      refine HK.out _ _ ?_ (Below.refl _ _)
      show _ = _
      first | rfl | simp only [RM.out, RE.out, W1.out, W2.out, W3.out, W4.out, W5.out, W6.out, W7.out]
    refine OwesAll.cons (k := 44) ?_ ?_
    · intro o ho a wx hS hold hdep K hK
      simp only [List.getElem?_toArray, List.getElem?_cons_succ, List.getElem?_cons_zero, Option.some.injEq] at ho
      subst ho
      have HK := Lib.hid hK
      clear hK
      have d60 : a.tmps.getD 60 undef = .string Z := dep_at hdep 40 rfl rfl (by kernel_rfl)
      have d63 : a.tmps.getD 63 undef = .int .i64 (268435456 + r) := dep_at hdep 43 rfl rfl (by kernel_rfl)
      clear hold hdep
      rw [Array.getD_eq_getD_getElem?] at d60
      rw [Array.getD_eq_getD_getElem?] at d63
      rw [if_pos (by rfl)]
      go_simp
      exact HK.out _ _ rfl (Below.refl _ _)
    refine OwesAll.cons (k := 45) ?_ ?_
    · intro o ho a wx hS hold hdep K hK
      simp only [List.getElem?_toArray, List.getElem?_cons_succ, List.getElem?_cons_zero, Option.some.injEq] at ho
      subst ho
      have HK := Lib.hid hK
      clear hK
      have d64 : a.tmps.getD 64 undef = .agg #[.string Z, .int .i64 (268435456 + r)] := dep_at hdep 44 rfl rfl (by kernel_rfl)
      clear hold hdep
      rw [Array.getD_eq_getD_getElem?] at d64
      rw [if_pos (by rfl)]
      go_simp
      exact HK.out _ _ rfl (Below.refl _ _)
    refine OwesAll.cons (k := 46) ?_ ?_
    · intro o ho a wx hS hold hdep K hK
      simp only [List.getElem?_toArray, List.getElem?_cons_succ, List.getElem?_cons_zero, Option.some.injEq] at ho
      subst ho
      have HK := Lib.hid hK
      clear hK
      have d2 : a.tmps.getD 2 undef = .pointer (some ⟨w.heap.size, 0, none⟩) := hold 2 (unset_of (by kernel_rfl))
      clear hold hdep
      rw [Array.getD_eq_getD_getElem?] at d2
      rw [if_pos (by rfl)]
      go_simp
      exact HK.out _ _ rfl (Below.refl _ _)
    refine OwesAll.cons (k := 47) ?_ ?_
    · intro o ho a wx hS hold hdep K hK
      simp only [List.getElem?_toArray, List.getElem?_cons_succ, List.getElem?_cons_zero, Option.some.injEq] at ho
      subst ho
      have HK := Lib.hid hK
      clear hK
      have d66 : a.tmps.getD 66 undef = .pointer (some ⟨w.heap.size, 1, none⟩) := dep_at hdep 46 rfl rfl (by kernel_rfl)
      clear hold hdep
      rw [Array.getD_eq_getD_getElem?] at d66
      rw [if_pos (by rfl)]
      have c0 : wx.cell? ⟨w.heap.size, 1, none⟩ = some (.string nm) := (hS.cell (p := ⟨w.heap.size, 1, none⟩) lt0).trans c1
      go_simp
      exact HK.out _ _ rfl (Below.refl _ _)
    refine OwesAll.cons (k := 48) ?_ ?_
    · intro o ho a wx hS hold hdep K hK
      simp only [List.getElem?_toArray, List.getElem?_cons_succ, List.getElem?_cons_zero, Option.some.injEq] at ho
      subst ho
      have HK := Lib.hid hK
      clear hK
      have d67 : a.tmps.getD 67 undef = .string nm := dep_at hdep 47 rfl rfl (by kernel_rfl)
      clear hold hdep
      rw [Array.getD_eq_getD_getElem?] at d67
      have hq := hnm.out
      rw [if_pos (by rfl)]
      go_simp
      exact HK.out _ _ rfl (Below.refl _ _)
    refine OwesAll.cons (k := 49) ?_ ?_
    · intro o ho a wx hS hold hdep K hK
      simp only [List.getElem?_toArray, List.getElem?_cons_succ, List.getElem?_cons_zero, Option.some.injEq] at ho
      subst ho
      have HK := Lib.hid hK
      clear hK
      have d68 : a.tmps.getD 68 undef = .string (nm ++ ⟨#[46]⟩) := dep_at hdep 48 rfl rfl (by kernel_rfl)
      clear hold hdep
      rw [Array.getD_eq_getD_getElem?] at d68
      rw [if_pos (by rfl)]
      go_simp
      exact HK.out _ _ rfl (Below.refl _ _)
    refine OwesAll.cons (k := 50) ?_ ?_
    · intro o ho a wx hS hold hdep K hK
      simp only [List.getElem?_toArray, List.getElem?_cons_succ, List.getElem?_cons_zero, Option.some.injEq] at ho
      subst ho
      have HK := Lib.hid hK
      clear hK
      have d69 : a.tmps.getD 69 undef = .agg #[.string (nm ++ ⟨#[46]⟩)] := dep_at hdep 49 rfl rfl (by kernel_rfl)
      clear hold hdep
      rw [Array.getD_eq_getD_getElem?] at d69
      rw [if_pos (by rfl)]
      go_simp
      exact HK.out _ _ rfl (Below.refl _ _)
    refine OwesAll.cons (k := 51) ?_ ?_
    · intro o ho a wx hS hold hdep K hK
      simp only [List.getElem?_toArray, List.getElem?_cons_succ, List.getElem?_cons_zero, Option.some.injEq] at ho
      subst ho
      have HK := Lib.hid hK
      clear hK
      have d24 : a.tmps.getD 24 undef = .iface 51 (.agg #[.string ⟨#[97]⟩, .int .i64 (1001 + r)]) := dep_at hdep 4 rfl rfl (by kernel_rfl)
      have d29 : a.tmps.getD 29 undef = .iface 51 (.agg #[.string ⟨#[97]⟩, .int .i64 (-1 - r)]) := dep_at hdep 9 rfl rfl (by kernel_rfl)
      have d31 : a.tmps.getD 31 undef = .iface 53 (.agg #[.int .i64 0, .int .i64 1, .int .i64 0, .int .i64 0]) := dep_at hdep 11 rfl rfl (by kernel_rfl)
      have d36 : a.tmps.getD 36 undef = .iface 53 (.agg #[.int .i64 1, .int .i64 (65536 + r), .int .i64 0, .int .i64 0]) := dep_at hdep 16 rfl rfl (by kernel_rfl)
      have d41 : a.tmps.getD 41 undef = .iface 53 (.agg #[.int .i64 1, .int .i64 0, .int .i64 (-1 - r), .int .i64 0]) := dep_at hdep 21 rfl rfl (by kernel_rfl)
      have d43 : a.tmps.getD 43 undef = .iface 55 (.agg #[.string ⟨#[115, 104, 111, 114, 116]⟩]) := dep_at hdep 23 rfl rfl (by kernel_rfl)
      have d51 : a.tmps.getD 51 undef = .iface 58 (.agg #[.string Z, .int .i32 (113 + r)]) := dep_at hdep 31 rfl rfl (by kernel_rfl)
      have d58 : a.tmps.getD 58 undef = .iface 60 (.agg #[.string Z, .int .i64 0, .int .i64 (11 + r)]) := dep_at hdep 38 rfl rfl (by kernel_rfl)
      have d65 : a.tmps.getD 65 undef = .iface 62 (.agg #[.string Z, .int .i64 (268435456 + r)]) := dep_at hdep 45 rfl rfl (by kernel_rfl)
      have d70 : a.tmps.getD 70 undef = .iface 64 (.agg #[.string (nm ++ ⟨#[46]⟩)]) := dep_at hdep 50 rfl rfl (by kernel_rfl)
      clear hold hdep
      rw [Array.getD_eq_getD_getElem?] at d24
      rw [Array.getD_eq_getD_getElem?] at d29
      rw [Array.getD_eq_getD_getElem?] at d31
      rw [Array.getD_eq_getD_getElem?] at d36
      rw [Array.getD_eq_getD_getElem?] at d41
      rw [Array.getD_eq_getD_getElem?] at d43
      rw [Array.getD_eq_getD_getElem?] at d51
      rw [Array.getD_eq_getD_getElem?] at d58
      rw [Array.getD_eq_getD_getElem?] at d65
      rw [Array.getD_eq_getD_getElem?] at d70
      rw [if_pos (by rfl)]
      go_simp
      exact HK.out _ _ ⟨_, rfl, by rw [← HX.out]; exact Rd.made _ _ _⟩ (below_made _ _)
    refine OwesAll.cons (k := 52) ?_ ?_
    · intro o ho a wx hS hold hdep K hK
      simp only [List.getElem?_toArray, List.getElem?_cons_succ, List.getElem?_cons_zero, Option.some.injEq] at ho
      subst ho
      have HK := Lib.hid hK
      clear hK
      obtain ⟨a71, d71, r71⟩ : ∃ a', a.tmps.getD 71 undef = .slice a' 10 10 ∧ Rd wx a' XS := dep_at hdep 51 rfl rfl (by kernel_rfl)
      clear hold hdep
      rw [Array.getD_eq_getD_getElem?] at d71
      rw [if_pos (by rfl)]
      go_simp
      exact HK.out _ _ ⟨_, rfl, r71⟩ (Below.refl _ _)
    exact OwesAll.nil
  case ends =>
    intro a wx hS hsz hdf hold hdone
    simp only [List.getElem?_toArray, List.getElem?_cons_succ, List.getElem?_cons_zero, List.getElem?_nil]
    have hsz' : a.tmps.size = 114 := hsz
    have hdf' : a.defers = [] := hdf
    have ha := act_lit hsz' hdf'
    have e0 := hold 0 (unset_of (by kernel_rfl))
    have e1 := hold 1 (unset_of (by kernel_rfl))
    have e2 := hold 2 (unset_of (by kernel_rfl))
    have e3 := hold 3 (unset_of (by kernel_rfl))
    have e4 := hold 4 (unset_of (by kernel_rfl))
    have e5 := hold 5 (unset_of (by kernel_rfl))
    have e7 := hold 7 (unset_of (by kernel_rfl))
    have e8 := hold 8 (unset_of (by kernel_rfl))
    have e9 := hold 9 (unset_of (by kernel_rfl))
    have e10 := hold 10 (unset_of (by kernel_rfl))
    have e11 := hold 11 (unset_of (by kernel_rfl))
    have e12 := hold 12 (unset_of (by kernel_rfl))
    have e13 := hold 13 (unset_of (by kernel_rfl))
    have e14 := hold 14 (unset_of (by kernel_rfl))
    have e15 := hold 15 (unset_of (by kernel_rfl))
    have e16 := hold 16 (unset_of (by kernel_rfl))
    have e17 := hold 17 (unset_of (by kernel_rfl))
    have e18 := hold 18 (unset_of (by kernel_rfl))
    have e19 := hold 19 (unset_of (by kernel_rfl))
    have e72 := hold 72 (unset_of (by kernel_rfl))
    have e73 := hold 73 (unset_of (by kernel_rfl))
    have e74 := hold 74 (unset_of (by kernel_rfl))
    have e75 := hold 75 (unset_of (by kernel_rfl))
    have e76 := hold 76 (unset_of (by kernel_rfl))
    have e77 := hold 77 (unset_of (by kernel_rfl))
    have e78 := hold 78 (unset_of (by kernel_rfl))
    have e79 := hold 79 (unset_of (by kernel_rfl))
    have e80 := hold 80 (unset_of (by kernel_rfl))
    have e81 := hold 81 (unset_of (by kernel_rfl))
    have e82 := hold 82 (unset_of (by kernel_rfl))
    have e83 := hold 83 (unset_of (by kernel_rfl))
    have e84 := hold 84 (unset_of (by kernel_rfl))
    have e85 := hold 85 (unset_of (by kernel_rfl))
    have e86 := hold 86 (unset_of (by kernel_rfl))
    have e87 := hold 87 (unset_of (by kernel_rfl))
    have e88 := hold 88 (unset_of (by kernel_rfl))
    have e89 := hold 89 (unset_of (by kernel_rfl))
    have e90 := hold 90 (unset_of (by kernel_rfl))
    have e91 := hold 91 (unset_of (by kernel_rfl))
    have e92 := hold 92 (unset_of (by kernel_rfl))
    have e93 := hold 93 (unset_of (by kernel_rfl))
    have e94 := hold 94 (unset_of (by kernel_rfl))
    have e95 := hold 95 (unset_of (by kernel_rfl))
    have e96 := hold 96 (unset_of (by kernel_rfl))
    have e97 := hold 97 (unset_of (by kernel_rfl))
    have e98 := hold 98 (unset_of (by kernel_rfl))
    have e99 := hold 99 (unset_of (by kernel_rfl))
    have e100 := hold 100 (unset_of (by kernel_rfl))
    have e101 := hold 101 (unset_of (by kernel_rfl))
    have e102 := hold 102 (unset_of (by kernel_rfl))
    have e103 := hold 103 (unset_of (by kernel_rfl))
    have e104 := hold 104 (unset_of (by kernel_rfl))
    have e105 := hold 105 (unset_of (by kernel_rfl))
    have e106 := hold 106 (unset_of (by kernel_rfl))
    have e107 := hold 107 (unset_of (by kernel_rfl))
    have e108 := hold 108 (unset_of (by kernel_rfl))
    have e109 := hold 109 (unset_of (by kernel_rfl))
    have e110 := hold 110 (unset_of (by kernel_rfl))
    have e111 := hold 111 (unset_of (by kernel_rfl))
    have e112 := hold 112 (unset_of (by kernel_rfl))
    have e113 := hold 113 (unset_of (by kernel_rfl))
    have d20 : a.tmps.getD 20 undef = .int .i64 t := hdone 0 _ 20 rfl (by decide) rfl
    have d21 : a.tmps.getD 21 undef = .int .i64 r := hdone 1 _ 21 rfl (by decide) rfl
    have d22 : a.tmps.getD 22 undef = .int .i64 (1001 + r) := hdone 2 _ 22 rfl (by decide) rfl
    have d23 : a.tmps.getD 23 undef = .agg #[.string ⟨#[97]⟩, .int .i64 (1001 + r)] := hdone 3 _ 23 rfl (by decide) rfl
    have d24 : a.tmps.getD 24 undef = .iface 51 (.agg #[.string ⟨#[97]⟩, .int .i64 (1001 + r)]) := hdone 4 _ 24 rfl (by decide) rfl
    have d25 : a.tmps.getD 25 undef = .int .i64 t := hdone 5 _ 25 rfl (by decide) rfl
    have d26 : a.tmps.getD 26 undef = .int .i64 r := hdone 6 _ 26 rfl (by decide) rfl
    have d27 : a.tmps.getD 27 undef = .int .i64 (-1 - r) := hdone 7 _ 27 rfl (by decide) rfl
    have d28 : a.tmps.getD 28 undef = .agg #[.string ⟨#[97]⟩, .int .i64 (-1 - r)] := hdone 8 _ 28 rfl (by decide) rfl
    have d29 : a.tmps.getD 29 undef = .iface 51 (.agg #[.string ⟨#[97]⟩, .int .i64 (-1 - r)]) := hdone 9 _ 29 rfl (by decide) rfl
    have d30 : a.tmps.getD 30 undef = .agg #[.int .i64 0, .int .i64 1, .int .i64 0, .int .i64 0] := hdone 10 _ 30 rfl (by decide) rfl
    have d31 : a.tmps.getD 31 undef = .iface 53 (.agg #[.int .i64 0, .int .i64 1, .int .i64 0, .int .i64 0]) := hdone 11 _ 31 rfl (by decide) rfl
    have d32 : a.tmps.getD 32 undef = .int .i64 t := hdone 12 _ 32 rfl (by decide) rfl
    have d33 : a.tmps.getD 33 undef = .int .i64 r := hdone 13 _ 33 rfl (by decide) rfl
    have d34 : a.tmps.getD 34 undef = .int .i64 (65536 + r) := hdone 14 _ 34 rfl (by decide) rfl
    have d35 : a.tmps.getD 35 undef = .agg #[.int .i64 1, .int .i64 (65536 + r), .int .i64 0, .int .i64 0] := hdone 15 _ 35 rfl (by decide) rfl
    have d36 : a.tmps.getD 36 undef = .iface 53 (.agg #[.int .i64 1, .int .i64 (65536 + r), .int .i64 0, .int .i64 0]) := hdone 16 _ 36 rfl (by decide) rfl
    have d37 : a.tmps.getD 37 undef = .int .i64 t := hdone 17 _ 37 rfl (by decide) rfl
    have d38 : a.tmps.getD 38 undef = .int .i64 r := hdone 18 _ 38 rfl (by decide) rfl
    have d39 : a.tmps.getD 39 undef = .int .i64 (-1 - r) := hdone 19 _ 39 rfl (by decide) rfl
    have d40 : a.tmps.getD 40 undef = .agg #[.int .i64 1, .int .i64 0, .int .i64 (-1 - r), .int .i64 0] := hdone 20 _ 40 rfl (by decide) rfl
    have d41 : a.tmps.getD 41 undef = .iface 53 (.agg #[.int .i64 1, .int .i64 0, .int .i64 (-1 - r), .int .i64 0]) := hdone 21 _ 41 rfl (by decide) rfl
    have d42 : a.tmps.getD 42 undef = .agg #[.string ⟨#[115, 104, 111, 114, 116]⟩] := hdone 22 _ 42 rfl (by decide) rfl
    have d43 : a.tmps.getD 43 undef = .iface 55 (.agg #[.string ⟨#[115, 104, 111, 114, 116]⟩]) := hdone 23 _ 43 rfl (by decide) rfl
    have d45 : a.tmps.getD 45 undef = .string Z := hdone 25 _ 45 rfl (by decide) rfl
    have d46 : a.tmps.getD 46 undef = .int .i64 t := hdone 26 _ 46 rfl (by decide) rfl
    have d47 : a.tmps.getD 47 undef = .int .i64 r := hdone 27 _ 47 rfl (by decide) rfl
    have d48 : a.tmps.getD 48 undef = .int .i64 (113 + r) := hdone 28 _ 48 rfl (by decide) rfl
    have d49 : a.tmps.getD 49 undef = .int .i32 (113 + r) := hdone 29 _ 49 rfl (by decide) rfl
    have d50 : a.tmps.getD 50 undef = .agg #[.string Z, .int .i32 (113 + r)] := hdone 30 _ 50 rfl (by decide) rfl
    have d51 : a.tmps.getD 51 undef = .iface 58 (.agg #[.string Z, .int .i32 (113 + r)]) := hdone 31 _ 51 rfl (by decide) rfl
    have d53 : a.tmps.getD 53 undef = .string Z := hdone 33 _ 53 rfl (by decide) rfl
    have d54 : a.tmps.getD 54 undef = .int .i64 t := hdone 34 _ 54 rfl (by decide) rfl
    have d55 : a.tmps.getD 55 undef = .int .i64 r := hdone 35 _ 55 rfl (by decide) rfl
    have d56 : a.tmps.getD 56 undef = .int .i64 (11 + r) := hdone 36 _ 56 rfl (by decide) rfl
    have d57 : a.tmps.getD 57 undef = .agg #[.string Z, .int .i64 0, .int .i64 (11 + r)] := hdone 37 _ 57 rfl (by decide) rfl
    have d58 : a.tmps.getD 58 undef = .iface 60 (.agg #[.string Z, .int .i64 0, .int .i64 (11 + r)]) := hdone 38 _ 58 rfl (by decide) rfl
    have d60 : a.tmps.getD 60 undef = .string Z := hdone 40 _ 60 rfl (by decide) rfl
    have d61 : a.tmps.getD 61 undef = .int .i64 t := hdone 41 _ 61 rfl (by decide) rfl
    have d62 : a.tmps.getD 62 undef = .int .i64 r := hdone 42 _ 62 rfl (by decide) rfl
    have d63 : a.tmps.getD 63 undef = .int .i64 (268435456 + r) := hdone 43 _ 63 rfl (by decide) rfl
    have d64 : a.tmps.getD 64 undef = .agg #[.string Z, .int .i64 (268435456 + r)] := hdone 44 _ 64 rfl (by decide) rfl
    have d65 : a.tmps.getD 65 undef = .iface 62 (.agg #[.string Z, .int .i64 (268435456 + r)]) := hdone 45 _ 65 rfl (by decide) rfl
    have d66 : a.tmps.getD 66 undef = .pointer (some ⟨w.heap.size, 1, none⟩) := hdone 46 _ 66 rfl (by decide) rfl
    have d67 : a.tmps.getD 67 undef = .string nm := hdone 47 _ 67 rfl (by decide) rfl
    have d68 : a.tmps.getD 68 undef = .string (nm ++ ⟨#[46]⟩) := hdone 48 _ 68 rfl (by decide) rfl
    have d69 : a.tmps.getD 69 undef = .agg #[.string (nm ++ ⟨#[46]⟩)] := hdone 49 _ 69 rfl (by decide) rfl
    have d70 : a.tmps.getD 70 undef = .iface 64 (.agg #[.string (nm ++ ⟨#[46]⟩)]) := hdone 50 _ 70 rfl (by decide) rfl
    obtain ⟨a6, d6, r6⟩ : ∃ a', a.tmps.getD 6 undef = .slice a' 10 10 ∧ Rd wx a' XS := hdone 52 _ 6 rfl (by decide) rfl
    clear hold hdone hsz hdf hsz' hdf'
    simp only [Array.getD_eq_getD_getElem?, List.getElem?_toArray, List.getElem?_cons_succ, List.getElem?_cons_zero, Option.getD_some] at e0 e1 e2 e3 e4 e5 e7 e8 e9 e10 e11 e12 e13 e14 e15 e16 e17 e18 e19 e72 e73 e74 e75 e76 e77 e78 e79 e80 e81 e82 e83 e84 e85 e86 e87 e88 e89 e90 e91 e92 e93 e94 e95 e96 e97 e98 e99 e100 e101 e102 e103 e104 e105 e106 e107 e108 e109 e110 e111 e112 e113 d20 d21 d22 d23 d24 d25 d26 d27 d28 d29 d30 d31 d32 d33 d34 d35 d36 d37 d38 d39 d40 d41 d42 d43 d45 d46 d47 d48 d49 d50 d51 d53 d54 d55 d56 d57 d58 d60 d61 d62 d63 d64 d65 d66 d67 d68 d69 d70 d6
    simp only [show (List.range 114) = [0, 1, 2, 3, 4, 5, 6, 7, 8, 9, 10, 11, 12, 13, 14, 15, 16, 17, 18, 19, 20, 21, 22, 23, 24, 25, 26, 27, 28, 29, 30, 31, 32, 33, 34, 35, 36, 37, 38, 39, 40, 41, 42, 43, 44, 45, 46, 47, 48, 49, 50, 51, 52, 53, 54, 55, 56, 57, 58, 59, 60, 61, 62, 63, 64, 65, 66, 67, 68, 69, 70, 71, 72, 73, 74, 75, 76, 77, 78, 79, 80, 81, 82, 83, 84, 85, 86, 87, 88, 89, 90, 91, 92, 93, 94, 95, 96, 97, 98, 99, 100, 101, 102, 103, 104, 105, 106, 107, 108, 109, 110, 111, 112, 113] from rfl, List.map_cons, List.map_nil] at ha
    simp only [e0, e1, e2, e3, e4, e5, e7, e8, e9, e10, e11, e12, e13, e14, e15, e16, e17, e18, e19, e72, e73, e74, e75, e76, e77, e78, e79, e80, e81, e82, e83, e84, e85, e86, e87, e88, e89, e90, e91, e92, e93, e94, e95, e96, e97, e98, e99, e100, e101, e102, e103, e104, e105, e106, e107, e108, e109, e110, e111, e112, e113, d20, d21, d22, d23, d24, d25, d26, d27, d28, d29, d30, d31, d32, d33, d34, d35, d36, d37, d38, d39, d40, d41, d42, d43, d45, d46, d47, d48, d49, d50, d51, d53, d54, d55, d56, d57, d58, d60, d61, d62, d63, d64, d65, d66, d67, d68, d69, d70, d6] at ha
    clear e0 e1 e2 e3 e4 e5 e7 e8 e9 e10 e11 e12 e13 e14 e15 e16 e17 e18 e19 e72 e73 e74 e75 e76 e77 e78 e79 e80 e81 e82 e83 e84 e85 e86 e87 e88 e89 e90 e91 e92 e93 e94 e95 e96 e97 e98 e99 e100 e101 e102 e103 e104 e105 e106 e107 e108 e109 e110 e111 e112 e113 d20 d21 d22 d23 d24 d25 d26 d27 d28 d29 d30 d31 d32 d33 d34 d35 d36 d37 d38 d39 d40 d41 d42 d43 d45 d46 d47 d48 d49 d50 d51 d53 d54 d55 d56 d57 d58 d60 d61 d62 d63 d64 d65 d66 d67 d68 d69 d70 d6
    generalize a.tmps[44]?.getD undef = u44 at ha
    generalize a.tmps[52]?.getD undef = u52 at ha
    generalize a.tmps[59]?.getD undef = u59 at ha
    generalize a.tmps[71]?.getD undef = u71 at ha
    subst ha
    have HR := Lib.hid r6
    have HB := Lib.hid (chain BB.out hS)
    clear r6 hS
    go_wp2_with fail
    go_loopw [7] (fun i wr => ∃ j : Nat, j ≤ 10 ∧ i = .int .i64 (j : Int) ∧ Below wx.heap.size wx wr) (fun i _ => 11 - (intOf i).toNat)
    case atStart => exact ⟨0, by omega, rfl, Below.refl _ _⟩
    case round =>
      obtain ⟨j, hj, rfl, hb⟩ := hrel
      have HW := Lib.hid hb
      by_cases hlt : j < 10
      · have hji : (j : Int) < 10 := by omega
        have hjl : j < XS.length := by rw [HN.out]; exact hlt
        have IM := Lib.hid (HI.out _ (List.getElem_mem hjl))
        obtain ⟨b, off, rfl, hbl, hcell⟩ := (HR.out.below hb).at j hjl
        generalize XS[j] = x at *
        clear hb
        go_wp2_with fail
        refine (im_encode _ _ _ IM).mono ?_
        rintro e w3 ⟨rfl, b3⟩
        have hcell3 : w3.cell? ⟨b, off + j, none⟩ = some x := (b3.cell (p := ⟨b, off + j, none⟩) hbl).trans hcell
        have hbl3 := Nat.lt_of_lt_of_le hbl b3.size
        have B3 := Lib.hid (chain HW.out b3)
        clear hcell hbl b3
        go_wp2_with fail
        refine (im_bears _ _ IM).mono ?_
        rintro e w4 ⟨rfl, b3⟩
        have hcell4 : w4.cell? ⟨b, off + j, none⟩ = some x := (b3.cell (p := ⟨b, off + j, none⟩) hbl3).trans hcell3
        have hbl4 := Nat.lt_of_lt_of_le hbl3 b3.size
        have B4 := Lib.hid (chain B3.out b3)
        clear hcell3 hbl3 b3
        go_wp2_with fail
        refine (im_right _ _ IM).mono ?_
        rintro e w5 ⟨rfl, b3⟩
        have hcell5 : w5.cell? ⟨b, off + j, none⟩ = some x := (b3.cell (p := ⟨b, off + j, none⟩) hbl4).trans hcell4
        have hbl5 := Nat.lt_of_lt_of_le hbl4 b3.size
        have B5 := Lib.hid (chain B4.out b3)
        clear hcell4 hbl4 b3
        go_wp2_with fail
        refine (im_mutates _ _ IM).mono ?_
        rintro e w6 ⟨rfl, b3⟩
        have B6 := Lib.hid (chain B5.out b3)
        clear b3
        go_wp2_with fail
        go_roundw
        case rel => exact ⟨j + 1, by omega, by go_num, B6.out⟩
        case measure => simp [intOf]; omega
      · obtain rfl : j = 10 := by omega
        go_wp2_with fail
        go_ret
        exact ⟨rfl, chain HB.out HW.out⟩
theorem protoStrange_law (op : Int) (nm : ByteArray) (hd : ByteArray) (to : ByteArray) (li : Int) (ob : Int) (ri : Int) (ba : Int) (ex : Int) (le : Int) (sf : Bool) (fr : Int) (mo : Int) (far : Int) (w : World) (v_op : (Lit.int .i64 op).wf = true) (z_nm : nm.size ≤ 140737488351232) (z_hd : hd.size ≤ 140737488351232) (z_to : to.size ≤ 140737488351232) (v_li : (Lit.int .i64 li).wf = true) (v_ob : (Lit.int .i64 ob).wf = true) (v_ri : (Lit.int .i64 ri).wf = true) (v_ba : (Lit.int .i64 ba).wf = true) (v_ex : (Lit.int .i64 ex).wf = true) (v_le : (Lit.int .i32 le).wf = true) (v_fr : (Lit.int .i64 fr).wf = true) (v_mo : (Lit.int .i64 mo).wf = true) (v_far : (Lit.int .i64 far).wf = true) :
    Calls Try.prog 8 #[.agg #[.int .i64 op, .string nm, .string hd, .string to, .int .i64 li, .int .i64 ob, .int .i64 ri, .int .i64 ba, .int .i64 ex, .int .i32 le, .bool sf, .int .i64 fr, .int .i64 mo], .int .i64 far] w fun e w' => e = .returned (.bool true) ∧ Below w.heap.size w w' := by
  have hw := v_far
  simp only [Lit.wf, Bool.and_eq_true, decide_eq_true_eq] at hw
  have hmin : IntKind.i64.min = -9223372036854775808 := rfl
  rw [hmin] at hw
  have o1 := hw.1
  clear hw hmin
  have key : ∀ t r : Int, 0 ≤ r → r ≤ 999 → ∀ x ∈ ([.iface 51 (.agg #[.string ⟨#[97]⟩, .int .i64 (1001 + r)]), .iface 51 (.agg #[.string ⟨#[97]⟩, .int .i64 (-1 - r)]), .iface 53 (.agg #[.int .i64 0, .int .i64 1, .int .i64 0, .int .i64 0]), .iface 53 (.agg #[.int .i64 1, .int .i64 (65536 + r), .int .i64 0, .int .i64 0]), .iface 53 (.agg #[.int .i64 1, .int .i64 0, .int .i64 (-1 - r), .int .i64 0]), .iface 55 (.agg #[.string ⟨#[115, 104, 111, 114, 116]⟩]), .iface 58 (.agg #[.string (Str (List.replicate 29 (0 : UInt8))), .int .i32 (113 + r)]), .iface 60 (.agg #[.string (Str (List.replicate 29 (0 : UInt8))), .int .i64 0, .int .i64 (11 + r)]), .iface 62 (.agg #[.string (Str (List.replicate 29 (0 : UInt8))), .int .i64 (268435456 + r)]), .iface 64 (.agg #[.string (nm ++ ⟨#[46]⟩)])] : List Value), Improper x := by
    intro t r r0 r1 x hx
    have hz : hdB (Str (List.replicate 29 (0 : UInt8))) = true := by decide +kernel
    simp only [List.mem_cons, List.not_mem_nil, or_false] at hx
    rcases hx with rfl | rfl | rfl | rfl | rfl | rfl | rfl | rfl | rfl | rfl
    · intro w; exact (proper_Register _ _ false w (by decide) (by unfold registerR inB; simp; omega)).mono fun e w' h => h
    · intro w; exact (proper_Register _ _ false w (by decide) (by unfold registerR inB; simp; omega)).mono fun e w' h => h
    · intro w; exact (proper_Mint _ _ _ _ false w (by unfold mintR inB; simp)).mono fun e w' h => h
    · intro w; exact (proper_Mint _ _ _ _ false w (by unfold mintR mayB subB maskOk inB; simp; omega)).mono fun e w' h => h
    · intro w; exact (proper_Mint _ _ _ _ false w (by unfold mintR mayB inB; simp; omega)).mono fun e w' h => h
    · intro w; exact (proper_Validate _ false w (by decide +kernel)).mono fun e w' h => h
    · intro w; exact (proper_Invoke _ _ false w (by unfold invokeR inB; simp; omega)).mono fun e w' h => h
    · intro w; exact (proper_List _ _ _ false w (by unfold listR inB; simp; omega)).mono fun e w' h => h
    · intro w; exact (proper_Renew _ _ false w (by unfold renewR inB; simp; omega)).mono fun e w' h => h
    · exact hello_wrong _ (by rw [ByteArray.size_append]; have : (⟨#[46]⟩ : ByteArray).size = 1 := rfl; omega) (point_wrong nm)
  by_cases h0 : far < 0
  · have t0 : 0 ≤ -(far + 1) := by omega
    exact strange_n op nm hd to li ob ri ba ex le sf fr mo far _ _ _ _ w h0 (Lib.hid rfl) t0 o1 (Int.emod_nonneg _ (by decide)) (by have := Int.emod_lt_of_pos (-(far + 1)) (show (0 : Int) < 1000 by decide); omega) (Lib.hid (Int.tmod_eq_emod_of_nonneg t0)) (Lib.hid rfl) (Lib.hid rfl) (Lib.hid rfl) (Lib.hid rfl) (Lib.hid (by simp; omega)) (Lib.hid (key 0 _ (Int.emod_nonneg _ (by decide)) (by have := Int.emod_lt_of_pos (-(far + 1)) (show (0 : Int) < 1000 by decide); omega)))
  · have t0 : 0 ≤ far := by omega
    exact strange_p op nm hd to li ob ri ba ex le sf fr mo far _ _ _ _ w t0 (Lib.hid rfl) t0 o1 (Int.emod_nonneg _ (by decide)) (by have := Int.emod_lt_of_pos far (show (0 : Int) < 1000 by decide); omega) (Lib.hid (Int.tmod_eq_emod_of_nonneg t0)) (Lib.hid rfl) (Lib.hid rfl) (Lib.hid rfl) (Lib.hid rfl) (Lib.hid (by simp; omega)) (Lib.hid (key 0 _ (Int.emod_nonneg _ (by decide)) (by have := Int.emod_lt_of_pos far (show (0 : Int) < 1000 by decide); omega)))
end Go.Proofs.Ytemhlhcaahaecaa
