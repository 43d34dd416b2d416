import Derived.Test.YtlcgohmpbmmcpaaBitsFacts
namespace Go.Proofs.Ytlcgohmpbmmcpaa
open Go.RowKit
set_option linter.unusedVariables false

set_option maxHeartbeats 1600000 in
theorem bitsWith_bnrx (b c x y : ByteArray) (i k : Int) (w : World) (hb : b.size ≤ 140737488351232) (i0 : -9223372036854775808 ≤ i) (i1 : i ≤ 9223372036854775807) (k0 : -9223372036854775808 ≤ k) (k1 : k ≤ 9223372036854775807) (hc : Hid (b.extract 0 300 = c)) (hbb : 300 < (b.size : Int))
    (hcs : c.size ≤ 300) (hx : x.size = c.size) (hy : y.size = c.size) (IN : Hid (withB c i true = c)) (OUT : Hid (withB c i false = y)) (p q : Nat) (hq : q ≤ 2400) (CI : Hid (cntL c.data.toList = p)) (CO : Hid (cntL y.data.toList = q))
    (r0 : 0 ≤ i) (r1 : i < 8 * (c.size : Int)) (hpq : p = q + 1) (HI : Hid (hasB c i = true)) (HO : Hid (hasB y i = false)) (hne : k ≠ i) (v : Bool) (HXK : Hid (hasB c k = v)) (HYK : Hid (hasB y k = v)) (HK : Hid (hasB c k = v)) :
    Calls Try.prog 5 #[.string b, .int .i64 i, .int .i64 k] w fun e w' => e = .returned (.bool true) ∧ Below w.heap.size w w' := by
  subst hpq
  · go_enter Try.func5, Try.ntmps5
    simp only [List.append_eq, List.cons_append, List.nil_append]
    go_wp2_with fail
    refine (examples_any _).mono ?_
    rintro e w1 ⟨rfl, bb⟩
    go_wp2_with fail
    rw [hc.out]
    refine (with_any _ _ _ _ (by omega)).mono ?_
    rw [IN.out]
    rintro e w2 ⟨rfl, b2⟩
    replace bb := chain bb b2
    clear b2
    go_wp2_with fail
    refine (with_any _ _ _ _ (by omega)).mono ?_
    rw [OUT.out]
    rintro e w3 ⟨rfl, b3⟩
    replace bb := chain bb b3
    clear b3
    go_wp2_with fail
    all_goals try (exfalso; omega)
    all_goals
     refine (count_any _ _ (by omega)).mono ?_
     rw [CI.out]
     rintro e w4 ⟨rfl, rfl⟩
     go_wp2_with fail
     refine (count_any _ _ (by omega)).mono ?_
     rw [CO.out]
     rintro e w5 ⟨rfl, rfl⟩
     go_wp2_with fail
     refine (has_any _ _ _ (by omega)).mono ?_
     rw [HI.out]
     rintro e w9 ⟨rfl, rfl⟩
     go_wp2_with fail
     refine (has_any _ _ _ (by omega)).mono ?_
     rw [HO.out]
     rintro e w9 ⟨rfl, rfl⟩
     go_wp2_with fail
     refine (has_any _ _ _ (by omega)).mono ?_
     rw [HXK.out]
     rintro e w9 ⟨rfl, rfl⟩
     go_wp2_with fail
     refine (has_any _ _ _ (by omega)).mono ?_
     rw [HK.out]
     rintro e w9 ⟨rfl, rfl⟩
     go_wp2_with fail
     refine (has_any _ _ _ (by omega)).mono ?_
     rw [HYK.out]
     rintro e w9 ⟨rfl, rfl⟩
     go_wp2_with fail
     refine (has_any _ _ _ (by omega)).mono ?_
     rw [HK.out]
     rintro e w9 ⟨rfl, rfl⟩
     go_wp2_with fail
     all_goals go_ret
     all_goals refine ⟨ret_true ?_, bb⟩
     all_goals first | (simp; done) | (simp; omega)
set_option maxHeartbeats 1600000 in
theorem bitsWith_bnry (b c x y : ByteArray) (i k : Int) (w : World) (hb : b.size ≤ 140737488351232) (i0 : -9223372036854775808 ≤ i) (i1 : i ≤ 9223372036854775807) (k0 : -9223372036854775808 ≤ k) (k1 : k ≤ 9223372036854775807) (hc : Hid (b.extract 0 300 = c)) (hbb : 300 < (b.size : Int))
    (hcs : c.size ≤ 300) (hx : x.size = c.size) (hy : y.size = c.size) (IN : Hid (withB c i true = x)) (OUT : Hid (withB c i false = c)) (p q : Nat) (hq : q ≤ 2400) (CI : Hid (cntL x.data.toList = p)) (CO : Hid (cntL c.data.toList = q))
    (r0 : 0 ≤ i) (r1 : i < 8 * (c.size : Int)) (hpq : p = q + 1) (HI : Hid (hasB x i = true)) (HO : Hid (hasB c i = false)) (hne : k ≠ i) (v : Bool) (HXK : Hid (hasB x k = v)) (HYK : Hid (hasB c k = v)) (HK : Hid (hasB c k = v)) :
    Calls Try.prog 5 #[.string b, .int .i64 i, .int .i64 k] w fun e w' => e = .returned (.bool true) ∧ Below w.heap.size w w' := by
  subst hpq
  · go_enter Try.func5, Try.ntmps5
    simp only [List.append_eq, List.cons_append, List.nil_append]
    go_wp2_with fail
    refine (examples_any _).mono ?_
    rintro e w1 ⟨rfl, bb⟩
    go_wp2_with fail
    rw [hc.out]
    refine (with_any _ _ _ _ (by omega)).mono ?_
    rw [IN.out]
    rintro e w2 ⟨rfl, b2⟩
    replace bb := chain bb b2
    clear b2
    go_wp2_with fail
    refine (with_any _ _ _ _ (by omega)).mono ?_
    rw [OUT.out]
    rintro e w3 ⟨rfl, b3⟩
    replace bb := chain bb b3
    clear b3
    go_wp2_with fail
    all_goals try (exfalso; omega)
    all_goals
     refine (count_any _ _ (by omega)).mono ?_
     rw [CI.out]
     rintro e w4 ⟨rfl, rfl⟩
     go_wp2_with fail
     refine (count_any _ _ (by omega)).mono ?_
     rw [CO.out]
     rintro e w5 ⟨rfl, rfl⟩
     go_wp2_with fail
     refine (has_any _ _ _ (by omega)).mono ?_
     rw [HI.out]
     rintro e w9 ⟨rfl, rfl⟩
     go_wp2_with fail
     refine (has_any _ _ _ (by omega)).mono ?_
     rw [HO.out]
     rintro e w9 ⟨rfl, rfl⟩
     go_wp2_with fail
     refine (has_any _ _ _ (by omega)).mono ?_
     rw [HXK.out]
     rintro e w9 ⟨rfl, rfl⟩
     go_wp2_with fail
     refine (has_any _ _ _ (by omega)).mono ?_
     rw [HK.out]
     rintro e w9 ⟨rfl, rfl⟩
     go_wp2_with fail
     refine (has_any _ _ _ (by omega)).mono ?_
     rw [HYK.out]
     rintro e w9 ⟨rfl, rfl⟩
     go_wp2_with fail
     refine (has_any _ _ _ (by omega)).mono ?_
     rw [HK.out]
     rintro e w9 ⟨rfl, rfl⟩
     go_wp2_with fail
     all_goals go_ret
     all_goals refine ⟨ret_true ?_, bb⟩
     all_goals first | (simp; done) | (simp; omega)
set_option maxHeartbeats 1600000 in
theorem bitsWith_bno (b c x y : ByteArray) (i k : Int) (w : World) (hb : b.size ≤ 140737488351232) (i0 : -9223372036854775808 ≤ i) (i1 : i ≤ 9223372036854775807) (k0 : -9223372036854775808 ≤ k) (k1 : k ≤ 9223372036854775807) (hc : Hid (b.extract 0 300 = c)) (hbb : 300 < (b.size : Int))
    (hcs : c.size ≤ 300) (hx : x.size = c.size) (hy : y.size = c.size) (IN : Hid (withB c i true = c)) (OUT : Hid (withB c i false = c)) (p q : Nat) (hq : q ≤ 2400) (CI : Hid (cntL c.data.toList = p)) (CO : Hid (cntL c.data.toList = q))
    (r0 : i < 0 ∨ (0 ≤ i ∧ 8 * (c.size : Int) ≤ i)) (hpq : p = q) (HI : Hid (hasB c i = false)) (HO : Hid (hasB c i = false)) (hne : k ≠ i) (v : Bool) (HXK : Hid (hasB c k = v)) (HYK : Hid (hasB c k = v)) (HK : Hid (hasB c k = v)) :
    Calls Try.prog 5 #[.string b, .int .i64 i, .int .i64 k] w fun e w' => e = .returned (.bool true) ∧ Below w.heap.size w w' := by
  subst hpq
  rcases r0 with r0 | ⟨r0, r1⟩
  · go_enter Try.func5, Try.ntmps5
    simp only [List.append_eq, List.cons_append, List.nil_append]
    go_wp2_with fail
    refine (examples_any _).mono ?_
    rintro e w1 ⟨rfl, bb⟩
    go_wp2_with fail
    rw [hc.out]
    refine (with_any _ _ _ _ (by omega)).mono ?_
    rw [IN.out]
    rintro e w2 ⟨rfl, b2⟩
    replace bb := chain bb b2
    clear b2
    go_wp2_with fail
    refine (with_any _ _ _ _ (by omega)).mono ?_
    rw [OUT.out]
    rintro e w3 ⟨rfl, b3⟩
    replace bb := chain bb b3
    clear b3
    go_wp2_with fail
    all_goals try (exfalso; omega)
    all_goals
     refine (count_any _ _ (by omega)).mono ?_
     rw [CI.out]
     rintro e w4 ⟨rfl, rfl⟩
     go_wp2_with fail
     refine (count_any _ _ (by omega)).mono ?_
     rw [CO.out]
     rintro e w5 ⟨rfl, rfl⟩
     go_wp2_with fail
     refine (has_any _ _ _ (by omega)).mono ?_
     rw [HI.out]
     rintro e w9 ⟨rfl, rfl⟩
     go_wp2_with fail
     refine (has_any _ _ _ (by omega)).mono ?_
     rw [HO.out]
     rintro e w9 ⟨rfl, rfl⟩
     go_wp2_with fail
     refine (has_any _ _ _ (by omega)).mono ?_
     rw [HXK.out]
     rintro e w9 ⟨rfl, rfl⟩
     go_wp2_with fail
     refine (has_any _ _ _ (by omega)).mono ?_
     rw [HK.out]
     rintro e w9 ⟨rfl, rfl⟩
     go_wp2_with fail
     refine (has_any _ _ _ (by omega)).mono ?_
     rw [HYK.out]
     rintro e w9 ⟨rfl, rfl⟩
     go_wp2_with fail
     refine (has_any _ _ _ (by omega)).mono ?_
     rw [HK.out]
     rintro e w9 ⟨rfl, rfl⟩
     go_wp2_with fail
     all_goals go_ret
     all_goals refine ⟨ret_true ?_, bb⟩
     all_goals first | (simp; done) | (simp; omega)
  · go_enter Try.func5, Try.ntmps5
    simp only [List.append_eq, List.cons_append, List.nil_append]
    go_wp2_with fail
    refine (examples_any _).mono ?_
    rintro e w1 ⟨rfl, bb⟩
    go_wp2_with fail
    rw [hc.out]
    refine (with_any _ _ _ _ (by omega)).mono ?_
    rw [IN.out]
    rintro e w2 ⟨rfl, b2⟩
    replace bb := chain bb b2
    clear b2
    go_wp2_with fail
    refine (with_any _ _ _ _ (by omega)).mono ?_
    rw [OUT.out]
    rintro e w3 ⟨rfl, b3⟩
    replace bb := chain bb b3
    clear b3
    go_wp2_with fail
    all_goals try (exfalso; omega)
    all_goals
     refine (count_any _ _ (by omega)).mono ?_
     rw [CI.out]
     rintro e w4 ⟨rfl, rfl⟩
     go_wp2_with fail
     refine (count_any _ _ (by omega)).mono ?_
     rw [CO.out]
     rintro e w5 ⟨rfl, rfl⟩
     go_wp2_with fail
     refine (has_any _ _ _ (by omega)).mono ?_
     rw [HI.out]
     rintro e w9 ⟨rfl, rfl⟩
     go_wp2_with fail
     refine (has_any _ _ _ (by omega)).mono ?_
     rw [HO.out]
     rintro e w9 ⟨rfl, rfl⟩
     go_wp2_with fail
     refine (has_any _ _ _ (by omega)).mono ?_
     rw [HXK.out]
     rintro e w9 ⟨rfl, rfl⟩
     go_wp2_with fail
     refine (has_any _ _ _ (by omega)).mono ?_
     rw [HK.out]
     rintro e w9 ⟨rfl, rfl⟩
     go_wp2_with fail
     refine (has_any _ _ _ (by omega)).mono ?_
     rw [HYK.out]
     rintro e w9 ⟨rfl, rfl⟩
     go_wp2_with fail
     refine (has_any _ _ _ (by omega)).mono ?_
     rw [HK.out]
     rintro e w9 ⟨rfl, rfl⟩
     go_wp2_with fail
     all_goals go_ret
     all_goals refine ⟨ret_true ?_, bb⟩
     all_goals first | (simp; done) | (simp; omega)
set_option maxHeartbeats 1600000 in
theorem bitsWith_berx (b c x y : ByteArray) (i k : Int) (w : World) (hb : b.size ≤ 140737488351232) (i0 : -9223372036854775808 ≤ i) (i1 : i ≤ 9223372036854775807) (k0 : -9223372036854775808 ≤ k) (k1 : k ≤ 9223372036854775807) (hc : Hid (b.extract 0 300 = c)) (hbb : 300 < (b.size : Int))
    (hcs : c.size ≤ 300) (hx : x.size = c.size) (hy : y.size = c.size) (IN : Hid (withB c i true = c)) (OUT : Hid (withB c i false = y)) (p q : Nat) (hq : q ≤ 2400) (CI : Hid (cntL c.data.toList = p)) (CO : Hid (cntL y.data.toList = q))
    (r0 : 0 ≤ i) (r1 : i < 8 * (c.size : Int)) (hpq : p = q + 1) (HI : Hid (hasB c i = true)) (HO : Hid (hasB y i = false)) :
    Calls Try.prog 5 #[.string b, .int .i64 i, .int .i64 i] w fun e w' => e = .returned (.bool true) ∧ Below w.heap.size w w' := by
  subst hpq
  · go_enter Try.func5, Try.ntmps5
    simp only [List.append_eq, List.cons_append, List.nil_append]
    go_wp2_with fail
    refine (examples_any _).mono ?_
    rintro e w1 ⟨rfl, bb⟩
    go_wp2_with fail
    rw [hc.out]
    refine (with_any _ _ _ _ (by omega)).mono ?_
    rw [IN.out]
    rintro e w2 ⟨rfl, b2⟩
    replace bb := chain bb b2
    clear b2
    go_wp2_with fail
    refine (with_any _ _ _ _ (by omega)).mono ?_
    rw [OUT.out]
    rintro e w3 ⟨rfl, b3⟩
    replace bb := chain bb b3
    clear b3
    go_wp2_with fail
    all_goals try (exfalso; omega)
    all_goals
     refine (count_any _ _ (by omega)).mono ?_
     rw [CI.out]
     rintro e w4 ⟨rfl, rfl⟩
     go_wp2_with fail
     refine (count_any _ _ (by omega)).mono ?_
     rw [CO.out]
     rintro e w5 ⟨rfl, rfl⟩
     go_wp2_with fail
     refine (has_any _ _ _ (by omega)).mono ?_
     rw [HI.out]
     rintro e w9 ⟨rfl, rfl⟩
     go_wp2_with fail
     refine (has_any _ _ _ (by omega)).mono ?_
     rw [HO.out]
     rintro e w9 ⟨rfl, rfl⟩
     go_wp2_with fail
     all_goals go_ret
     all_goals refine ⟨ret_true ?_, bb⟩
     all_goals first | (simp; done) | (simp; omega)
set_option maxHeartbeats 1600000 in
theorem bitsWith_bery (b c x y : ByteArray) (i k : Int) (w : World) (hb : b.size ≤ 140737488351232) (i0 : -9223372036854775808 ≤ i) (i1 : i ≤ 9223372036854775807) (k0 : -9223372036854775808 ≤ k) (k1 : k ≤ 9223372036854775807) (hc : Hid (b.extract 0 300 = c)) (hbb : 300 < (b.size : Int))
    (hcs : c.size ≤ 300) (hx : x.size = c.size) (hy : y.size = c.size) (IN : Hid (withB c i true = x)) (OUT : Hid (withB c i false = c)) (p q : Nat) (hq : q ≤ 2400) (CI : Hid (cntL x.data.toList = p)) (CO : Hid (cntL c.data.toList = q))
    (r0 : 0 ≤ i) (r1 : i < 8 * (c.size : Int)) (hpq : p = q + 1) (HI : Hid (hasB x i = true)) (HO : Hid (hasB c i = false)) :
    Calls Try.prog 5 #[.string b, .int .i64 i, .int .i64 i] w fun e w' => e = .returned (.bool true) ∧ Below w.heap.size w w' := by
  subst hpq
  · go_enter Try.func5, Try.ntmps5
    simp only [List.append_eq, List.cons_append, List.nil_append]
    go_wp2_with fail
    refine (examples_any _).mono ?_
    rintro e w1 ⟨rfl, bb⟩
    go_wp2_with fail
    rw [hc.out]
    refine (with_any _ _ _ _ (by omega)).mono ?_
    rw [IN.out]
    rintro e w2 ⟨rfl, b2⟩
    replace bb := chain bb b2
    clear b2
    go_wp2_with fail
    refine (with_any _ _ _ _ (by omega)).mono ?_
    rw [OUT.out]
    rintro e w3 ⟨rfl, b3⟩
    replace bb := chain bb b3
    clear b3
    go_wp2_with fail
    all_goals try (exfalso; omega)
    all_goals
     refine (count_any _ _ (by omega)).mono ?_
     rw [CI.out]
     rintro e w4 ⟨rfl, rfl⟩
     go_wp2_with fail
     refine (count_any _ _ (by omega)).mono ?_
     rw [CO.out]
     rintro e w5 ⟨rfl, rfl⟩
     go_wp2_with fail
     refine (has_any _ _ _ (by omega)).mono ?_
     rw [HI.out]
     rintro e w9 ⟨rfl, rfl⟩
     go_wp2_with fail
     refine (has_any _ _ _ (by omega)).mono ?_
     rw [HO.out]
     rintro e w9 ⟨rfl, rfl⟩
     go_wp2_with fail
     all_goals go_ret
     all_goals refine ⟨ret_true ?_, bb⟩
     all_goals first | (simp; done) | (simp; omega)
set_option maxHeartbeats 1600000 in
theorem bitsWith_beo (b c x y : ByteArray) (i k : Int) (w : World) (hb : b.size ≤ 140737488351232) (i0 : -9223372036854775808 ≤ i) (i1 : i ≤ 9223372036854775807) (k0 : -9223372036854775808 ≤ k) (k1 : k ≤ 9223372036854775807) (hc : Hid (b.extract 0 300 = c)) (hbb : 300 < (b.size : Int))
    (hcs : c.size ≤ 300) (hx : x.size = c.size) (hy : y.size = c.size) (IN : Hid (withB c i true = c)) (OUT : Hid (withB c i false = c)) (p q : Nat) (hq : q ≤ 2400) (CI : Hid (cntL c.data.toList = p)) (CO : Hid (cntL c.data.toList = q))
    (r0 : i < 0 ∨ (0 ≤ i ∧ 8 * (c.size : Int) ≤ i)) (hpq : p = q) (HI : Hid (hasB c i = false)) (HO : Hid (hasB c i = false)) :
    Calls Try.prog 5 #[.string b, .int .i64 i, .int .i64 i] w fun e w' => e = .returned (.bool true) ∧ Below w.heap.size w w' := by
  subst hpq
  rcases r0 with r0 | ⟨r0, r1⟩
  · go_enter Try.func5, Try.ntmps5
    simp only [List.append_eq, List.cons_append, List.nil_append]
    go_wp2_with fail
    refine (examples_any _).mono ?_
    rintro e w1 ⟨rfl, bb⟩
    go_wp2_with fail
    rw [hc.out]
    refine (with_any _ _ _ _ (by omega)).mono ?_
    rw [IN.out]
    rintro e w2 ⟨rfl, b2⟩
    replace bb := chain bb b2
    clear b2
    go_wp2_with fail
    refine (with_any _ _ _ _ (by omega)).mono ?_
    rw [OUT.out]
    rintro e w3 ⟨rfl, b3⟩
    replace bb := chain bb b3
    clear b3
    go_wp2_with fail
    all_goals try (exfalso; omega)
    all_goals
     refine (count_any _ _ (by omega)).mono ?_
     rw [CI.out]
     rintro e w4 ⟨rfl, rfl⟩
     go_wp2_with fail
     refine (count_any _ _ (by omega)).mono ?_
     rw [CO.out]
     rintro e w5 ⟨rfl, rfl⟩
     go_wp2_with fail
     refine (has_any _ _ _ (by omega)).mono ?_
     rw [HI.out]
     rintro e w9 ⟨rfl, rfl⟩
     go_wp2_with fail
     refine (has_any _ _ _ (by omega)).mono ?_
     rw [HO.out]
     rintro e w9 ⟨rfl, rfl⟩
     go_wp2_with fail
     all_goals go_ret
     all_goals refine ⟨ret_true ?_, bb⟩
     all_goals first | (simp; done) | (simp; omega)
  · go_enter Try.func5, Try.ntmps5
    simp only [List.append_eq, List.cons_append, List.nil_append]
    go_wp2_with fail
    refine (examples_any _).mono ?_
    rintro e w1 ⟨rfl, bb⟩
    go_wp2_with fail
    rw [hc.out]
    refine (with_any _ _ _ _ (by omega)).mono ?_
    rw [IN.out]
    rintro e w2 ⟨rfl, b2⟩
    replace bb := chain bb b2
    clear b2
    go_wp2_with fail
    refine (with_any _ _ _ _ (by omega)).mono ?_
    rw [OUT.out]
    rintro e w3 ⟨rfl, b3⟩
    replace bb := chain bb b3
    clear b3
    go_wp2_with fail
    all_goals try (exfalso; omega)
    all_goals
     refine (count_any _ _ (by omega)).mono ?_
     rw [CI.out]
     rintro e w4 ⟨rfl, rfl⟩
     go_wp2_with fail
     refine (count_any _ _ (by omega)).mono ?_
     rw [CO.out]
     rintro e w5 ⟨rfl, rfl⟩
     go_wp2_with fail
     refine (has_any _ _ _ (by omega)).mono ?_
     rw [HI.out]
     rintro e w9 ⟨rfl, rfl⟩
     go_wp2_with fail
     refine (has_any _ _ _ (by omega)).mono ?_
     rw [HO.out]
     rintro e w9 ⟨rfl, rfl⟩
     go_wp2_with fail
     all_goals go_ret
     all_goals refine ⟨ret_true ?_, bb⟩
     all_goals first | (simp; done) | (simp; omega)
set_option maxHeartbeats 1600000 in
theorem bitsWith_snrx (b c x y : ByteArray) (i k : Int) (w : World) (hb : b.size ≤ 140737488351232) (i0 : -9223372036854775808 ≤ i) (i1 : i ≤ 9223372036854775807) (k0 : -9223372036854775808 ≤ k) (k1 : k ≤ 9223372036854775807) (hbb : (b.size : Int) ≤ 300)
    (hcs : b.size ≤ 300) (hx : x.size = b.size) (hy : y.size = b.size) (IN : Hid (withB b i true = b)) (OUT : Hid (withB b i false = y)) (p q : Nat) (hq : q ≤ 2400) (CI : Hid (cntL b.data.toList = p)) (CO : Hid (cntL y.data.toList = q))
    (r0 : 0 ≤ i) (r1 : i < 8 * (b.size : Int)) (hpq : p = q + 1) (HI : Hid (hasB b i = true)) (HO : Hid (hasB y i = false)) (hne : k ≠ i) (v : Bool) (HXK : Hid (hasB b k = v)) (HYK : Hid (hasB y k = v)) (HK : Hid (hasB b k = v)) :
    Calls Try.prog 5 #[.string b, .int .i64 i, .int .i64 k] w fun e w' => e = .returned (.bool true) ∧ Below w.heap.size w w' := by
  subst hpq
  · go_enter Try.func5, Try.ntmps5
    simp only [List.append_eq, List.cons_append, List.nil_append]
    go_wp2_with fail
    refine (examples_any _).mono ?_
    rintro e w1 ⟨rfl, bb⟩
    go_wp2_with fail
    refine (with_any _ _ _ _ (by omega)).mono ?_
    rw [IN.out]
    rintro e w2 ⟨rfl, b2⟩
    replace bb := chain bb b2
    clear b2
    go_wp2_with fail
    refine (with_any _ _ _ _ (by omega)).mono ?_
    rw [OUT.out]
    rintro e w3 ⟨rfl, b3⟩
    replace bb := chain bb b3
    clear b3
    go_wp2_with fail
    all_goals try (exfalso; omega)
    all_goals
     refine (count_any _ _ (by omega)).mono ?_
     rw [CI.out]
     rintro e w4 ⟨rfl, rfl⟩
     go_wp2_with fail
     refine (count_any _ _ (by omega)).mono ?_
     rw [CO.out]
     rintro e w5 ⟨rfl, rfl⟩
     go_wp2_with fail
     refine (has_any _ _ _ (by omega)).mono ?_
     rw [HI.out]
     rintro e w9 ⟨rfl, rfl⟩
     go_wp2_with fail
     refine (has_any _ _ _ (by omega)).mono ?_
     rw [HO.out]
     rintro e w9 ⟨rfl, rfl⟩
     go_wp2_with fail
     refine (has_any _ _ _ (by omega)).mono ?_
     rw [HXK.out]
     rintro e w9 ⟨rfl, rfl⟩
     go_wp2_with fail
     refine (has_any _ _ _ (by omega)).mono ?_
     rw [HK.out]
     rintro e w9 ⟨rfl, rfl⟩
     go_wp2_with fail
     refine (has_any _ _ _ (by omega)).mono ?_
     rw [HYK.out]
     rintro e w9 ⟨rfl, rfl⟩
     go_wp2_with fail
     refine (has_any _ _ _ (by omega)).mono ?_
     rw [HK.out]
     rintro e w9 ⟨rfl, rfl⟩
     go_wp2_with fail
     all_goals go_ret
     all_goals refine ⟨ret_true ?_, bb⟩
     all_goals first | (simp; done) | (simp; omega)
set_option maxHeartbeats 1600000 in
theorem bitsWith_snry (b c x y : ByteArray) (i k : Int) (w : World) (hb : b.size ≤ 140737488351232) (i0 : -9223372036854775808 ≤ i) (i1 : i ≤ 9223372036854775807) (k0 : -9223372036854775808 ≤ k) (k1 : k ≤ 9223372036854775807) (hbb : (b.size : Int) ≤ 300)
    (hcs : b.size ≤ 300) (hx : x.size = b.size) (hy : y.size = b.size) (IN : Hid (withB b i true = x)) (OUT : Hid (withB b i false = b)) (p q : Nat) (hq : q ≤ 2400) (CI : Hid (cntL x.data.toList = p)) (CO : Hid (cntL b.data.toList = q))
    (r0 : 0 ≤ i) (r1 : i < 8 * (b.size : Int)) (hpq : p = q + 1) (HI : Hid (hasB x i = true)) (HO : Hid (hasB b i = false)) (hne : k ≠ i) (v : Bool) (HXK : Hid (hasB x k = v)) (HYK : Hid (hasB b k = v)) (HK : Hid (hasB b k = v)) :
    Calls Try.prog 5 #[.string b, .int .i64 i, .int .i64 k] w fun e w' => e = .returned (.bool true) ∧ Below w.heap.size w w' := by
  subst hpq
  · go_enter Try.func5, Try.ntmps5
    simp only [List.append_eq, List.cons_append, List.nil_append]
    go_wp2_with fail
    refine (examples_any _).mono ?_
    rintro e w1 ⟨rfl, bb⟩
    go_wp2_with fail
    refine (with_any _ _ _ _ (by omega)).mono ?_
    rw [IN.out]
    rintro e w2 ⟨rfl, b2⟩
    replace bb := chain bb b2
    clear b2
    go_wp2_with fail
    refine (with_any _ _ _ _ (by omega)).mono ?_
    rw [OUT.out]
    rintro e w3 ⟨rfl, b3⟩
    replace bb := chain bb b3
    clear b3
    go_wp2_with fail
    all_goals try (exfalso; omega)
    all_goals
     refine (count_any _ _ (by omega)).mono ?_
     rw [CI.out]
     rintro e w4 ⟨rfl, rfl⟩
     go_wp2_with fail
     refine (count_any _ _ (by omega)).mono ?_
     rw [CO.out]
     rintro e w5 ⟨rfl, rfl⟩
     go_wp2_with fail
     refine (has_any _ _ _ (by omega)).mono ?_
     rw [HI.out]
     rintro e w9 ⟨rfl, rfl⟩
     go_wp2_with fail
     refine (has_any _ _ _ (by omega)).mono ?_
     rw [HO.out]
     rintro e w9 ⟨rfl, rfl⟩
     go_wp2_with fail
     refine (has_any _ _ _ (by omega)).mono ?_
     rw [HXK.out]
     rintro e w9 ⟨rfl, rfl⟩
     go_wp2_with fail
     refine (has_any _ _ _ (by omega)).mono ?_
     rw [HK.out]
     rintro e w9 ⟨rfl, rfl⟩
     go_wp2_with fail
     refine (has_any _ _ _ (by omega)).mono ?_
     rw [HYK.out]
     rintro e w9 ⟨rfl, rfl⟩
     go_wp2_with fail
     refine (has_any _ _ _ (by omega)).mono ?_
     rw [HK.out]
     rintro e w9 ⟨rfl, rfl⟩
     go_wp2_with fail
     all_goals go_ret
     all_goals refine ⟨ret_true ?_, bb⟩
     all_goals first | (simp; done) | (simp; omega)
set_option maxHeartbeats 1600000 in
theorem bitsWith_sno (b c x y : ByteArray) (i k : Int) (w : World) (hb : b.size ≤ 140737488351232) (i0 : -9223372036854775808 ≤ i) (i1 : i ≤ 9223372036854775807) (k0 : -9223372036854775808 ≤ k) (k1 : k ≤ 9223372036854775807) (hbb : (b.size : Int) ≤ 300)
    (hcs : b.size ≤ 300) (hx : x.size = b.size) (hy : y.size = b.size) (IN : Hid (withB b i true = b)) (OUT : Hid (withB b i false = b)) (p q : Nat) (hq : q ≤ 2400) (CI : Hid (cntL b.data.toList = p)) (CO : Hid (cntL b.data.toList = q))
    (r0 : i < 0 ∨ (0 ≤ i ∧ 8 * (b.size : Int) ≤ i)) (hpq : p = q) (HI : Hid (hasB b i = false)) (HO : Hid (hasB b i = false)) (hne : k ≠ i) (v : Bool) (HXK : Hid (hasB b k = v)) (HYK : Hid (hasB b k = v)) (HK : Hid (hasB b k = v)) :
    Calls Try.prog 5 #[.string b, .int .i64 i, .int .i64 k] w fun e w' => e = .returned (.bool true) ∧ Below w.heap.size w w' := by
  subst hpq
  rcases r0 with r0 | ⟨r0, r1⟩
  · go_enter Try.func5, Try.ntmps5
    simp only [List.append_eq, List.cons_append, List.nil_append]
    go_wp2_with fail
    refine (examples_any _).mono ?_
    rintro e w1 ⟨rfl, bb⟩
    go_wp2_with fail
    refine (with_any _ _ _ _ (by omega)).mono ?_
    rw [IN.out]
    rintro e w2 ⟨rfl, b2⟩
    replace bb := chain bb b2
    clear b2
    go_wp2_with fail
    refine (with_any _ _ _ _ (by omega)).mono ?_
    rw [OUT.out]
    rintro e w3 ⟨rfl, b3⟩
    replace bb := chain bb b3
    clear b3
    go_wp2_with fail
    all_goals try (exfalso; omega)
    all_goals
     refine (count_any _ _ (by omega)).mono ?_
     rw [CI.out]
     rintro e w4 ⟨rfl, rfl⟩
     go_wp2_with fail
     refine (count_any _ _ (by omega)).mono ?_
     rw [CO.out]
     rintro e w5 ⟨rfl, rfl⟩
     go_wp2_with fail
     refine (has_any _ _ _ (by omega)).mono ?_
     rw [HI.out]
     rintro e w9 ⟨rfl, rfl⟩
     go_wp2_with fail
     refine (has_any _ _ _ (by omega)).mono ?_
     rw [HO.out]
     rintro e w9 ⟨rfl, rfl⟩
     go_wp2_with fail
     refine (has_any _ _ _ (by omega)).mono ?_
     rw [HXK.out]
     rintro e w9 ⟨rfl, rfl⟩
     go_wp2_with fail
     refine (has_any _ _ _ (by omega)).mono ?_
     rw [HK.out]
     rintro e w9 ⟨rfl, rfl⟩
     go_wp2_with fail
     refine (has_any _ _ _ (by omega)).mono ?_
     rw [HYK.out]
     rintro e w9 ⟨rfl, rfl⟩
     go_wp2_with fail
     refine (has_any _ _ _ (by omega)).mono ?_
     rw [HK.out]
     rintro e w9 ⟨rfl, rfl⟩
     go_wp2_with fail
     all_goals go_ret
     all_goals refine ⟨ret_true ?_, bb⟩
     all_goals first | (simp; done) | (simp; omega)
  · go_enter Try.func5, Try.ntmps5
    simp only [List.append_eq, List.cons_append, List.nil_append]
    go_wp2_with fail
    refine (examples_any _).mono ?_
    rintro e w1 ⟨rfl, bb⟩
    go_wp2_with fail
    refine (with_any _ _ _ _ (by omega)).mono ?_
    rw [IN.out]
    rintro e w2 ⟨rfl, b2⟩
    replace bb := chain bb b2
    clear b2
    go_wp2_with fail
    refine (with_any _ _ _ _ (by omega)).mono ?_
    rw [OUT.out]
    rintro e w3 ⟨rfl, b3⟩
    replace bb := chain bb b3
    clear b3
    go_wp2_with fail
    all_goals try (exfalso; omega)
    all_goals
     refine (count_any _ _ (by omega)).mono ?_
     rw [CI.out]
     rintro e w4 ⟨rfl, rfl⟩
     go_wp2_with fail
     refine (count_any _ _ (by omega)).mono ?_
     rw [CO.out]
     rintro e w5 ⟨rfl, rfl⟩
     go_wp2_with fail
     refine (has_any _ _ _ (by omega)).mono ?_
     rw [HI.out]
     rintro e w9 ⟨rfl, rfl⟩
     go_wp2_with fail
     refine (has_any _ _ _ (by omega)).mono ?_
     rw [HO.out]
     rintro e w9 ⟨rfl, rfl⟩
     go_wp2_with fail
     refine (has_any _ _ _ (by omega)).mono ?_
     rw [HXK.out]
     rintro e w9 ⟨rfl, rfl⟩
     go_wp2_with fail
     refine (has_any _ _ _ (by omega)).mono ?_
     rw [HK.out]
     rintro e w9 ⟨rfl, rfl⟩
     go_wp2_with fail
     refine (has_any _ _ _ (by omega)).mono ?_
     rw [HYK.out]
     rintro e w9 ⟨rfl, rfl⟩
     go_wp2_with fail
     refine (has_any _ _ _ (by omega)).mono ?_
     rw [HK.out]
     rintro e w9 ⟨rfl, rfl⟩
     go_wp2_with fail
     all_goals go_ret
     all_goals refine ⟨ret_true ?_, bb⟩
     all_goals first | (simp; done) | (simp; omega)
set_option maxHeartbeats 1600000 in
theorem bitsWith_serx (b c x y : ByteArray) (i k : Int) (w : World) (hb : b.size ≤ 140737488351232) (i0 : -9223372036854775808 ≤ i) (i1 : i ≤ 9223372036854775807) (k0 : -9223372036854775808 ≤ k) (k1 : k ≤ 9223372036854775807) (hbb : (b.size : Int) ≤ 300)
    (hcs : b.size ≤ 300) (hx : x.size = b.size) (hy : y.size = b.size) (IN : Hid (withB b i true = b)) (OUT : Hid (withB b i false = y)) (p q : Nat) (hq : q ≤ 2400) (CI : Hid (cntL b.data.toList = p)) (CO : Hid (cntL y.data.toList = q))
    (r0 : 0 ≤ i) (r1 : i < 8 * (b.size : Int)) (hpq : p = q + 1) (HI : Hid (hasB b i = true)) (HO : Hid (hasB y i = false)) :
    Calls Try.prog 5 #[.string b, .int .i64 i, .int .i64 i] w fun e w' => e = .returned (.bool true) ∧ Below w.heap.size w w' := by
  subst hpq
  · go_enter Try.func5, Try.ntmps5
    simp only [List.append_eq, List.cons_append, List.nil_append]
    go_wp2_with fail
    refine (examples_any _).mono ?_
    rintro e w1 ⟨rfl, bb⟩
    go_wp2_with fail
    refine (with_any _ _ _ _ (by omega)).mono ?_
    rw [IN.out]
    rintro e w2 ⟨rfl, b2⟩
    replace bb := chain bb b2
    clear b2
    go_wp2_with fail
    refine (with_any _ _ _ _ (by omega)).mono ?_
    rw [OUT.out]
    rintro e w3 ⟨rfl, b3⟩
    replace bb := chain bb b3
    clear b3
    go_wp2_with fail
    all_goals try (exfalso; omega)
    all_goals
     refine (count_any _ _ (by omega)).mono ?_
     rw [CI.out]
     rintro e w4 ⟨rfl, rfl⟩
     go_wp2_with fail
     refine (count_any _ _ (by omega)).mono ?_
     rw [CO.out]
     rintro e w5 ⟨rfl, rfl⟩
     go_wp2_with fail
     refine (has_any _ _ _ (by omega)).mono ?_
     rw [HI.out]
     rintro e w9 ⟨rfl, rfl⟩
     go_wp2_with fail
     refine (has_any _ _ _ (by omega)).mono ?_
     rw [HO.out]
     rintro e w9 ⟨rfl, rfl⟩
     go_wp2_with fail
     all_goals go_ret
     all_goals refine ⟨ret_true ?_, bb⟩
     all_goals first | (simp; done) | (simp; omega)
set_option maxHeartbeats 1600000 in
theorem bitsWith_sery (b c x y : ByteArray) (i k : Int) (w : World) (hb : b.size ≤ 140737488351232) (i0 : -9223372036854775808 ≤ i) (i1 : i ≤ 9223372036854775807) (k0 : -9223372036854775808 ≤ k) (k1 : k ≤ 9223372036854775807) (hbb : (b.size : Int) ≤ 300)
    (hcs : b.size ≤ 300) (hx : x.size = b.size) (hy : y.size = b.size) (IN : Hid (withB b i true = x)) (OUT : Hid (withB b i false = b)) (p q : Nat) (hq : q ≤ 2400) (CI : Hid (cntL x.data.toList = p)) (CO : Hid (cntL b.data.toList = q))
    (r0 : 0 ≤ i) (r1 : i < 8 * (b.size : Int)) (hpq : p = q + 1) (HI : Hid (hasB x i = true)) (HO : Hid (hasB b i = false)) :
    Calls Try.prog 5 #[.string b, .int .i64 i, .int .i64 i] w fun e w' => e = .returned (.bool true) ∧ Below w.heap.size w w' := by
  subst hpq
  · go_enter Try.func5, Try.ntmps5
    simp only [List.append_eq, List.cons_append, List.nil_append]
    go_wp2_with fail
    refine (examples_any _).mono ?_
    rintro e w1 ⟨rfl, bb⟩
    go_wp2_with fail
    refine (with_any _ _ _ _ (by omega)).mono ?_
    rw [IN.out]
    rintro e w2 ⟨rfl, b2⟩
    replace bb := chain bb b2
    clear b2
    go_wp2_with fail
    refine (with_any _ _ _ _ (by omega)).mono ?_
    rw [OUT.out]
    rintro e w3 ⟨rfl, b3⟩
    replace bb := chain bb b3
    clear b3
    go_wp2_with fail
    all_goals try (exfalso; omega)
    all_goals
     refine (count_any _ _ (by omega)).mono ?_
     rw [CI.out]
     rintro e w4 ⟨rfl, rfl⟩
     go_wp2_with fail
     refine (count_any _ _ (by omega)).mono ?_
     rw [CO.out]
     rintro e w5 ⟨rfl, rfl⟩
     go_wp2_with fail
     refine (has_any _ _ _ (by omega)).mono ?_
     rw [HI.out]
     rintro e w9 ⟨rfl, rfl⟩
     go_wp2_with fail
     refine (has_any _ _ _ (by omega)).mono ?_
     rw [HO.out]
     rintro e w9 ⟨rfl, rfl⟩
     go_wp2_with fail
     all_goals go_ret
     all_goals refine ⟨ret_true ?_, bb⟩
     all_goals first | (simp; done) | (simp; omega)
set_option maxHeartbeats 1600000 in
theorem bitsWith_seo (b c x y : ByteArray) (i k : Int) (w : World) (hb : b.size ≤ 140737488351232) (i0 : -9223372036854775808 ≤ i) (i1 : i ≤ 9223372036854775807) (k0 : -9223372036854775808 ≤ k) (k1 : k ≤ 9223372036854775807) (hbb : (b.size : Int) ≤ 300)
    (hcs : b.size ≤ 300) (hx : x.size = b.size) (hy : y.size = b.size) (IN : Hid (withB b i true = b)) (OUT : Hid (withB b i false = b)) (p q : Nat) (hq : q ≤ 2400) (CI : Hid (cntL b.data.toList = p)) (CO : Hid (cntL b.data.toList = q))
    (r0 : i < 0 ∨ (0 ≤ i ∧ 8 * (b.size : Int) ≤ i)) (hpq : p = q) (HI : Hid (hasB b i = false)) (HO : Hid (hasB b i = false)) :
    Calls Try.prog 5 #[.string b, .int .i64 i, .int .i64 i] w fun e w' => e = .returned (.bool true) ∧ Below w.heap.size w w' := by
  subst hpq
  rcases r0 with r0 | ⟨r0, r1⟩
  · go_enter Try.func5, Try.ntmps5
    simp only [List.append_eq, List.cons_append, List.nil_append]
    go_wp2_with fail
    refine (examples_any _).mono ?_
    rintro e w1 ⟨rfl, bb⟩
    go_wp2_with fail
    refine (with_any _ _ _ _ (by omega)).mono ?_
    rw [IN.out]
    rintro e w2 ⟨rfl, b2⟩
    replace bb := chain bb b2
    clear b2
    go_wp2_with fail
    refine (with_any _ _ _ _ (by omega)).mono ?_
    rw [OUT.out]
    rintro e w3 ⟨rfl, b3⟩
    replace bb := chain bb b3
    clear b3
    go_wp2_with fail
    all_goals try (exfalso; omega)
    all_goals
     refine (count_any _ _ (by omega)).mono ?_
     rw [CI.out]
     rintro e w4 ⟨rfl, rfl⟩
     go_wp2_with fail
     refine (count_any _ _ (by omega)).mono ?_
     rw [CO.out]
     rintro e w5 ⟨rfl, rfl⟩
     go_wp2_with fail
     refine (has_any _ _ _ (by omega)).mono ?_
     rw [HI.out]
     rintro e w9 ⟨rfl, rfl⟩
     go_wp2_with fail
     refine (has_any _ _ _ (by omega)).mono ?_
     rw [HO.out]
     rintro e w9 ⟨rfl, rfl⟩
     go_wp2_with fail
     all_goals go_ret
     all_goals refine ⟨ret_true ?_, bb⟩
     all_goals first | (simp; done) | (simp; omega)
  · go_enter Try.func5, Try.ntmps5
    simp only [List.append_eq, List.cons_append, List.nil_append]
    go_wp2_with fail
    refine (examples_any _).mono ?_
    rintro e w1 ⟨rfl, bb⟩
    go_wp2_with fail
    refine (with_any _ _ _ _ (by omega)).mono ?_
    rw [IN.out]
    rintro e w2 ⟨rfl, b2⟩
    replace bb := chain bb b2
    clear b2
    go_wp2_with fail
    refine (with_any _ _ _ _ (by omega)).mono ?_
    rw [OUT.out]
    rintro e w3 ⟨rfl, b3⟩
    replace bb := chain bb b3
    clear b3
    go_wp2_with fail
    all_goals try (exfalso; omega)
    all_goals
     refine (count_any _ _ (by omega)).mono ?_
     rw [CI.out]
     rintro e w4 ⟨rfl, rfl⟩
     go_wp2_with fail
     refine (count_any _ _ (by omega)).mono ?_
     rw [CO.out]
     rintro e w5 ⟨rfl, rfl⟩
     go_wp2_with fail
     refine (has_any _ _ _ (by omega)).mono ?_
     rw [HI.out]
     rintro e w9 ⟨rfl, rfl⟩
     go_wp2_with fail
     refine (has_any _ _ _ (by omega)).mono ?_
     rw [HO.out]
     rintro e w9 ⟨rfl, rfl⟩
     go_wp2_with fail
     all_goals go_ret
     all_goals refine ⟨ret_true ?_, bb⟩
     all_goals first | (simp; done) | (simp; omega)
theorem bitsWith_law (a0 : ByteArray) (a1 a2 : Int) (w : World) (z0 : a0.size ≤ 140737488351232) (w1 : (Lit.int .i64 a1).wf = true) (w2 : (Lit.int .i64 a2).wf = true) :
    Calls Try.prog 5 #[.string a0, .int .i64 a1, .int .i64 a2] w fun e w' => e = .returned (.bool true) ∧ Below w.heap.size w w' := by
  have h1 := bounds_i64 w1
  have h2 := bounds_i64 w2
  have cl : ∀ c : ByteArray, c.size ≤ 300 → ∀ on, cntL (withB c a1 on).data.toList ≤ 2400 := fun c hc on => by
    have := cntL_le (withB c a1 on).data.toList
    have e : (withB c a1 on).data.toList.length = c.size := by
      have := withB_size c a1 on
      simpa using this
    omega
  rcases Int.lt_or_le 300 (a0.size : Int) with hb | hb
  · have hs : (a0.extract 0 300).size ≤ 300 := by rw [ByteArray.size_extract]; omega
    have CL := cl _ hs
    generalize hc : a0.extract 0 300 = c at *
    have hsx := withB_size c a1 true
    have hsy := withB_size c a1 false
    cases hr : roomB c a1
    · have r0 : a1 < 0 ∨ (0 ≤ a1 ∧ 8 * (c.size : Int) ≤ a1) := by
        have : ¬ (0 ≤ a1 ∧ a1 < 8 * (c.size : Int)) := fun h => by rw [(room_iff c a1).2 h] at hr; cases hr
        omega
      have ho := hasB_out c a1 (by omega)
      have e1 := with_out c a1 true hr
      have e2 := with_out c a1 false hr
      have h3 := CL true
      rw [e1] at h3
      by_cases hk : a2 = a1
      · subst hk
        exact bitsWith_beo a0 c c c a2 a2 w z0 h1.1 (by omega) h2.1 (by omega) (Lib.hid hc) hb hs rfl rfl (Lib.hid e1) (Lib.hid e2) _ _ h3 (Lib.hid rfl) (Lib.hid rfl) r0 rfl (Lib.hid ho) (Lib.hid ho)
      · exact bitsWith_bno a0 c c c a1 a2 w z0 h1.1 (by omega) h2.1 (by omega) (Lib.hid hc) hb hs rfl rfl (Lib.hid e1) (Lib.hid e2) _ _ h3 (Lib.hid rfl) (Lib.hid rfl) r0 rfl (Lib.hid ho) (Lib.hid ho) hk _ (Lib.hid rfl) (Lib.hid rfl) (Lib.hid rfl)
    · have hh := (room_iff c a1).1 hr
      have hcnt := cnt_with c a1 hr
      have hit := has_with c a1 a1 true hr
      have hif := has_with c a1 a1 false hr
      rw [if_pos rfl] at hit hif
      have hx := has_with c a1 a2 true hr
      have hy := has_with c a1 a2 false hr
      have h3 := CL false
      rcases with_same c a1 hr with e | e
      · rw [e] at hcnt hit hx
        by_cases hk : a2 = a1
        · subst hk
          exact bitsWith_berx a0 c c _ a2 a2 w z0 h1.1 (by omega) h2.1 (by omega) (Lib.hid hc) hb hs rfl hsy (Lib.hid e) (Lib.hid rfl) _ _ h3 (Lib.hid rfl) (Lib.hid rfl) hh.1 hh.2 hcnt (Lib.hid hit) (Lib.hid hif)
        · rw [if_neg hk] at hx hy
          exact bitsWith_bnrx a0 c c _ a1 a2 w z0 h1.1 (by omega) h2.1 (by omega) (Lib.hid hc) hb hs rfl hsy (Lib.hid e) (Lib.hid rfl) _ _ h3 (Lib.hid rfl) (Lib.hid rfl) hh.1 hh.2 hcnt (Lib.hid hit) (Lib.hid hif) hk _ (Lib.hid rfl) (Lib.hid hy) (Lib.hid rfl)
      · rw [e] at hcnt hif hy h3
        by_cases hk : a2 = a1
        · subst hk
          exact bitsWith_bery a0 c _ c a2 a2 w z0 h1.1 (by omega) h2.1 (by omega) (Lib.hid hc) hb hs hsx rfl (Lib.hid rfl) (Lib.hid e) _ _ h3 (Lib.hid rfl) (Lib.hid rfl) hh.1 hh.2 hcnt (Lib.hid hit) (Lib.hid hif)
        · rw [if_neg hk] at hx hy
          exact bitsWith_bnry a0 c _ c a1 a2 w z0 h1.1 (by omega) h2.1 (by omega) (Lib.hid hc) hb hs hsx rfl (Lib.hid rfl) (Lib.hid e) _ _ h3 (Lib.hid rfl) (Lib.hid rfl) hh.1 hh.2 hcnt (Lib.hid hit) (Lib.hid hif) hk _ (Lib.hid hx) (Lib.hid rfl) (Lib.hid rfl)
  · have hs : a0.size ≤ 300 := by omega
    have CL := cl _ hs
    generalize a0 = c at *
    have hsx := withB_size c a1 true
    have hsy := withB_size c a1 false
    cases hr : roomB c a1
    · have r0 : a1 < 0 ∨ (0 ≤ a1 ∧ 8 * (c.size : Int) ≤ a1) := by
        have : ¬ (0 ≤ a1 ∧ a1 < 8 * (c.size : Int)) := fun h => by rw [(room_iff c a1).2 h] at hr; cases hr
        omega
      have ho := hasB_out c a1 (by omega)
      have e1 := with_out c a1 true hr
      have e2 := with_out c a1 false hr
      have h3 := CL true
      rw [e1] at h3
      by_cases hk : a2 = a1
      · subst hk
        exact bitsWith_seo c c c c a2 a2 w z0 h1.1 (by omega) h2.1 (by omega) hb hs rfl rfl (Lib.hid e1) (Lib.hid e2) _ _ h3 (Lib.hid rfl) (Lib.hid rfl) r0 rfl (Lib.hid ho) (Lib.hid ho)
      · exact bitsWith_sno c c c c a1 a2 w z0 h1.1 (by omega) h2.1 (by omega) hb hs rfl rfl (Lib.hid e1) (Lib.hid e2) _ _ h3 (Lib.hid rfl) (Lib.hid rfl) r0 rfl (Lib.hid ho) (Lib.hid ho) hk _ (Lib.hid rfl) (Lib.hid rfl) (Lib.hid rfl)
    · have hh := (room_iff c a1).1 hr
      have hcnt := cnt_with c a1 hr
      have hit := has_with c a1 a1 true hr
      have hif := has_with c a1 a1 false hr
      rw [if_pos rfl] at hit hif
      have hx := has_with c a1 a2 true hr
      have hy := has_with c a1 a2 false hr
      have h3 := CL false
      rcases with_same c a1 hr with e | e
      · rw [e] at hcnt hit hx
        by_cases hk : a2 = a1
        · subst hk
          exact bitsWith_serx c c c _ a2 a2 w z0 h1.1 (by omega) h2.1 (by omega) hb hs rfl hsy (Lib.hid e) (Lib.hid rfl) _ _ h3 (Lib.hid rfl) (Lib.hid rfl) hh.1 hh.2 hcnt (Lib.hid hit) (Lib.hid hif)
        · rw [if_neg hk] at hx hy
          exact bitsWith_snrx c c c _ a1 a2 w z0 h1.1 (by omega) h2.1 (by omega) hb hs rfl hsy (Lib.hid e) (Lib.hid rfl) _ _ h3 (Lib.hid rfl) (Lib.hid rfl) hh.1 hh.2 hcnt (Lib.hid hit) (Lib.hid hif) hk _ (Lib.hid rfl) (Lib.hid hy) (Lib.hid rfl)
      · rw [e] at hcnt hif hy h3
        by_cases hk : a2 = a1
        · subst hk
          exact bitsWith_sery c c _ c a2 a2 w z0 h1.1 (by omega) h2.1 (by omega) hb hs hsx rfl (Lib.hid rfl) (Lib.hid e) _ _ h3 (Lib.hid rfl) (Lib.hid rfl) hh.1 hh.2 hcnt (Lib.hid hit) (Lib.hid hif)
        · rw [if_neg hk] at hx hy
          exact bitsWith_snry c c _ c a1 a2 w z0 h1.1 (by omega) h2.1 (by omega) hb hs hsx rfl (Lib.hid rfl) (Lib.hid e) _ _ h3 (Lib.hid rfl) (Lib.hid rfl) hh.1 hh.2 hcnt (Lib.hid hit) (Lib.hid hif) hk _ (Lib.hid hx) (Lib.hid rfl) (Lib.hid rfl)
end Go.Proofs.Ytlcgohmpbmmcpaa
