/-
  Package bailiwickref14: a cap is read (made by tools/gen14d.py).
-/
import Derived.Test.YtlbnakoaflladaaRef14CP
namespace Go.Proofs.Ytlbnakoaflladaa
open Go.RowKit
set_option linter.unusedVariables false
set_option linter.unusedSimpArgs false
theorem setN_other {g k : Nat} (hk : k ≠ g) {o : Obj} : ∀ (vs : List Value) (w : World) (i : Nat), w.heap[k]? = some o → (setN w g i vs).heap[k]? = some o
  | [], w, i, h => h
  | v :: vs, w, i, h => setN_other hk vs _ (i + 1) (stored_other h v (Ne.symm hk))
theorem tcap_pieces (s : ByteArray) (h : s.size = 24) (h1 : tcap8 s ≤ 1) : capB (tcap0 s) (tcap1 s) (tcap2 s) (tcap3 s) (tcap4 s) (tcap5 s) (tcap6 s) (tcap7 s) (tcap8 s == 1) = s ∧ (takeR s 3) = s.extract 3 s.size ∧ (takeR (takeR s 3) 3) = s.extract 6 s.size ∧ (takeR (takeR (takeR s 3) 3) 3) = s.extract 9 s.size ∧ (takeR (takeR (takeR (takeR s 3) 3) 3) 2) = s.extract 11 s.size ∧ (takeR (takeR (takeR (takeR (takeR s 3) 3) 3) 2) 4) = s.extract 15 s.size ∧ (takeR (takeR (takeR (takeR (takeR (takeR s 3) 3) 3) 2) 4) 1) = s.extract 16 s.size ∧ (takeR (takeR (takeR (takeR (takeR (takeR (takeR s 3) 3) 3) 2) 4) 1) 4) = s.extract 20 s.size ∧ (takeR (takeR (takeR (takeR (takeR (takeR (takeR (takeR s 3) 3) 3) 2) 4) 1) 4) 3) = s.extract 23 s.size := by
  have e0 := pt_back s (k := 3) (by decide) (by decide) (by omega)
  have e1 := pt_back (takeR s 3) (k := 3) (by decide) (by decide) (by omega)
  have e2 := pt_back (takeR (takeR s 3) 3) (k := 3) (by decide) (by decide) (by omega)
  have e3 := pt_back (takeR (takeR (takeR s 3) 3) 3) (k := 2) (by decide) (by decide) (by omega)
  have e4 := pt_back (takeR (takeR (takeR (takeR s 3) 3) 3) 2) (k := 4) (by decide) (by decide) (by omega)
  have e5 := pt_back (takeR (takeR (takeR (takeR (takeR s 3) 3) 3) 2) 4) (k := 1) (by decide) (by decide) (by omega)
  have e6 := pt_back (takeR (takeR (takeR (takeR (takeR (takeR s 3) 3) 3) 2) 4) 1) (k := 4) (by decide) (by decide) (by omega)
  have e7 := pt_back (takeR (takeR (takeR (takeR (takeR (takeR (takeR s 3) 3) 3) 2) 4) 1) 4) (k := 3) (by decide) (by decide) (by omega)
  have e8 := pt_back (takeR (takeR (takeR (takeR (takeR (takeR (takeR (takeR s 3) 3) 3) 2) 4) 1) 4) 3) (k := 1) (by decide) (by decide) (by omega)
  have ez := empty_of_size (s := takeR (takeR (takeR (takeR (takeR (takeR (takeR (takeR (takeR s 3) 3) 3) 2) 4) 1) 4) 3) 1) (by omega)
  have f1 := takeR_first s (k := 3) (by decide) (by decide) (by omega)
  have f2 : (takeR (takeR s 3) 3) = s.extract 6 s.size := by rw [f1]; exact takeR_off s (k := 3) 3 (by decide) (by decide) (by omega)
  have f3 : (takeR (takeR (takeR s 3) 3) 3) = s.extract 9 s.size := by rw [f2]; exact takeR_off s (k := 3) 6 (by decide) (by decide) (by omega)
  have f4 : (takeR (takeR (takeR (takeR s 3) 3) 3) 2) = s.extract 11 s.size := by rw [f3]; exact takeR_off s (k := 2) 9 (by decide) (by decide) (by omega)
  have f5 : (takeR (takeR (takeR (takeR (takeR s 3) 3) 3) 2) 4) = s.extract 15 s.size := by rw [f4]; exact takeR_off s (k := 4) 11 (by decide) (by decide) (by omega)
  have f6 : (takeR (takeR (takeR (takeR (takeR (takeR s 3) 3) 3) 2) 4) 1) = s.extract 16 s.size := by rw [f5]; exact takeR_off s (k := 1) 15 (by decide) (by decide) (by omega)
  have f7 : (takeR (takeR (takeR (takeR (takeR (takeR (takeR s 3) 3) 3) 2) 4) 1) 4) = s.extract 20 s.size := by rw [f6]; exact takeR_off s (k := 4) 16 (by decide) (by decide) (by omega)
  have f8 : (takeR (takeR (takeR (takeR (takeR (takeR (takeR (takeR s 3) 3) 3) 2) 4) 1) 4) 3) = s.extract 23 s.size := by rw [f7]; exact takeR_off s (k := 3) 20 (by decide) (by decide) (by omega)
  refine ⟨?_, f1, f2, f3, f4, f5, f6, f7, f8⟩
  have h0 : 0 ≤ tcap8 s := (takeN_range _ _ (by decide)).1
  have hy : yesN (tcap8 s == 1) = tcap8 s := by
    generalize tcap8 s = n at *
    rcases (show n = 0 ∨ n = 1 by omega) with rfl | rfl <;> rfl
  unfold capB
  rw [hy]
  have a8 := e8.1
  rw [ez, append_empty] at a8
  unfold tcap0 tcap1 tcap2 tcap3 tcap4 tcap5 tcap6 tcap7 tcap8
  simp only [ByteArray.append_assoc]
  rw [a8, e7.1, e6.1, e5.1, e4.1, e3.1, e2.1, e1.1, e0.1]
theorem take_one (t : ByteArray) (h : 0 < t.size) : takeN t 1 = (t[0].toNat : Int) := by
  have h1 : takeOk t 1 = true := by unfold takeOk; simp; omega
  unfold takeN
  rw [if_pos h1]
  exact congrArg Int.ofNat (ttN_at t h)
theorem last_at (s : ByteArray) (h : s.size = 24) (h23 : 23 < s.size) : takeN (s.extract 23 s.size) 1 = (s[23].toNat : Int) := by
  have hz : 0 < (s.extract 23 s.size).size := by rw [ByteArray.size_extract]; omega
  rw [take_one _ hz]
  simp [ByteArray.getElem_extract]
theorem tcap_eq (id : Int) (s : ByteArray) (h : s.size = 24) (h1 : tcap8 s ≤ 1) : tcapOk id s = capOk id (tcap0 s) (tcap1 s) (tcap2 s) (tcap3 s) (tcap4 s) (tcap5 s) (tcap6 s) (tcap7 s) := by
  unfold tcapOk capW
  rw [(tcap_pieces s h h1).1]; simp
theorem tcap_ne (id : Int) (s : ByteArray) (h : s.size ≠ 24) : tcapOk id s = false := by
  cases hk : tcapOk id s
  · rfl
  · exact absurd (tcapOk_size hk) h
theorem tcap_big (id : Int) (s : ByteArray) (h : 1 < tcap8 s) : tcapOk id s = false := by
  cases hk : tcapOk id s
  · rfl
  · exfalso
    obtain ⟨h1, h2⟩ := tcapOk_and hk
    obtain ⟨_, _, _, _, _, _, _, _, e8⟩ := cap_flds (tcap8 s == 1) ⟨#[]⟩ h1 s (by rw [append_empty]; exact h2)
    cases hb : (tcap8 s == 1)
    · rw [hb] at e8; rw [e8] at h; exact absurd h (by decide)
    · have : tcap8 s = 1 := by simpa using hb
      omega
set_option maxRecDepth 20000 in
set_option maxHeartbeats 800000 in
theorem refTakeCap_short (id : Int) (s : ByteArray) (w : World) (hk : s.size ≠ 24) :
    Calls Try.prog 13 #[.int .i64 id, .string s] w fun e w' => e = .returned (.tuple #[.agg #[.int .i64 0, .int .i64 0, .int .i64 0, .int .i64 0, .int .i64 0, .int .i64 0, .int .i64 0, .int .i64 0, .int .i64 0, .bool false], .bool false]) ∧ Below w.heap.size w w' := by
  have hk' : ¬ ((s.size : Int) = 24) := by omega
  clear hk
  go_enter Try.func13, Try.ntmps13
  have R4 : (w.alloc (.cells #[.int .i64 0, .int .i64 0, .int .i64 0, .int .i64 0, .int .i64 0, .int .i64 0, .int .i64 0, .int .i64 0, .int .i64 0, .bool false] 23)).heap[w.heap.size]? = some (.cells #[.int .i64 0, .int .i64 0, .int .i64 0, .int .i64 0, .int .i64 0, .int .i64 0, .int .i64 0, .int .i64 0, .int .i64 0, .bool false] 23) := heap_alloc_new _ _
  go_wp2_with fail
  exact bodyPost_ret (v := .tuple #[.agg #[.int .i64 0, .int .i64 0, .int .i64 0, .int .i64 0, .int .i64 0, .int .i64 0, .int .i64 0, .int .i64 0, .int .i64 0, .bool false], .bool false]) (results_row_tmp Try.results13 _ _ w.heap.size 23 _ (0, 0) _ _ rfl rfl R4 Try.underlying23 rfl size_cap) rfl ⟨rfl, (Below.refl _ _).alloc (Nat.le_refl _) _⟩
set_option maxRecDepth 20000 in
set_option maxHeartbeats 800000 in
theorem refTakeCap_big (id : Int) (s : ByteArray) (w : World) (hk : s.size = 24) (h23 : 23 < s.size) (hx : 1 < s[23].toNat) :
    Calls Try.prog 13 #[.int .i64 id, .string s] w fun e w' => e = .returned (.tuple #[.agg #[.int .i64 0, .int .i64 0, .int .i64 0, .int .i64 0, .int .i64 0, .int .i64 0, .int .i64 0, .int .i64 0, .int .i64 0, .bool false], .bool false]) ∧ Below w.heap.size w w' := by
  have hk' : (s.size : Int) = 24 := by omega
  have hc : s[23].toNat < 256 := s[23].toNat_lt
  go_enter Try.func13, Try.ntmps13
  have R4 : (w.alloc (.cells #[.int .i64 0, .int .i64 0, .int .i64 0, .int .i64 0, .int .i64 0, .int .i64 0, .int .i64 0, .int .i64 0, .int .i64 0, .bool false] 23)).heap[w.heap.size]? = some (.cells #[.int .i64 0, .int .i64 0, .int .i64 0, .int .i64 0, .int .i64 0, .int .i64 0, .int .i64 0, .int .i64 0, .int .i64 0, .bool false] 23) := heap_alloc_new _ _
  go_wp2_with fail
  exact bodyPost_ret (v := .tuple #[.agg #[.int .i64 0, .int .i64 0, .int .i64 0, .int .i64 0, .int .i64 0, .int .i64 0, .int .i64 0, .int .i64 0, .int .i64 0, .bool false], .bool false]) (results_row_tmp Try.results13 _ _ w.heap.size 23 _ (0, 0) _ _ rfl rfl R4 Try.underlying23 rfl size_cap) rfl ⟨rfl, (Below.refl _ _).alloc (Nat.le_refl _) _⟩
def boxSP (lo : Nat) (o : Obj) : SP := ⟨fun v w => ∃ g, v = .pointer (some ⟨g, 0, none⟩) ∧ w.heap[g]? = some o ∧ lo ≤ g, fun _ _ _ ⟨g, h1, h2, h3⟩ hb => ⟨g, h1, kept h2 hb, h3⟩⟩
set_option maxRecDepth 20000 in
set_option maxHeartbeats 3200000 in
theorem refTakeCap_long (id n0 n1 n2 n3 n4 n5 n6 n7 : Int) (c : Nat) (b v : Bool) (s t0 t1 t2 t3 t4 t5 t6 t7 : ByteArray) (w : World) (hk : (s.size : Int) = 24) (h23 : 23 < s.size) (hc : Hid (s[23].toNat = c)) (hx : ¬ (1 : Int) < (c : Int)) (hb : Hid (((c : Int) == 1) = b))
    (E0 : Hid (s.extract 0 s.size = t0)) (N0 : Hid (takeN t0 3 = n0)) (E1 : Hid (s.extract 3 s.size = t1)) (N1 : Hid (takeN t1 3 = n1)) (E2 : Hid (s.extract 6 s.size = t2)) (N2 : Hid (takeN t2 3 = n2)) (E3 : Hid (s.extract 9 s.size = t3)) (N3 : Hid (takeN t3 2 = n3)) (E4 : Hid (s.extract 11 s.size = t4)) (N4 : Hid (takeN t4 4 = n4)) (E5 : Hid (s.extract 15 s.size = t5)) (N5 : Hid (takeN t5 1 = n5)) (E6 : Hid (s.extract 16 s.size = t6)) (N6 : Hid (takeN t6 4 = n6)) (E7 : Hid (s.extract 20 s.size = t7)) (N7 : Hid (takeN t7 3 = n7)) (hv : Hid (capOk id n0 n1 n2 n3 n4 n5 n6 n7 = v)) :
    Calls Try.prog 13 #[.int .i64 id, .string s] w fun e' w' => e' = .returned (.tuple #[if v = true then .agg #[.int .i64 id, .int .i64 n0, .int .i64 n1, .int .i64 n2, .int .i64 n3, .int .i64 n4, .int .i64 n5, .int .i64 n6, .int .i64 n7, .bool b] else .agg #[.int .i64 0, .int .i64 0, .int .i64 0, .int .i64 0, .int .i64 0, .int .i64 0, .int .i64 0, .int .i64 0, .int .i64 0, .bool false], .bool v]) ∧ Below w.heap.size w w' := by
  go_enter Try.func13, Try.ntmps13
  obtain ⟨w1, hw1⟩ : ∃ w1, w.alloc (.cells #[.int .i64 0, .int .i64 0, .int .i64 0, .int .i64 0, .int .i64 0, .int .i64 0, .int .i64 0, .int .i64 0, .int .i64 0, .bool false] 23) = w1 := ⟨_, rfl⟩
  have K : Hid (w1.heap[w.heap.size]? = some (.cells #[.int .i64 0, .int .i64 0, .int .i64 0, .int .i64 0, .int .i64 0, .int .i64 0, .int .i64 0, .int .i64 0, .int .i64 0, .bool false] 23)) := Lib.hid (by rw [← hw1]; exact heap_alloc_new _ _)
  have B : Hid (Below w.heap.size w w1) := Lib.hid (by rw [← hw1]; exact (Below.refl _ _).alloc (Nat.le_refl _) _)
  have lt0 : w.heap.size < w1.heap.size := by rw [← hw1]; simp
  have hx' : ¬ (1 : Int) < (s[23].toNat : Int) := by rw [hc.out]; exact hx
  go_upto_region 3 with fail
  try rw [hw1]
  rw [hc.out]
  clear hw1 hx'
  refine region_kit 22 44 [eqV (.int .i64 id), eqV (.string s), eqV (.int .i64 n0), eqV (.string s), eqV (.int .i64 n1), eqV (.string s), eqV (.int .i64 n2), eqV (.string s), eqV (.int .i64 n3), eqV (.string s), eqV (.int .i64 n4), eqV (.string s), eqV (.int .i64 n5), eqV (.string s), eqV (.int .i64 n6), eqV (.string s), eqV (.int .i64 n7), eqV (.string s), eqV (.int .u8 (c : Int)), eqV (.bool b), eqV (.agg #[.int .i64 id, .int .i64 n0, .int .i64 n1, .int .i64 n2, .int .i64 n3, .int .i64 n4, .int .i64 n5, .int .i64 n6, .int .i64 n7, .bool b]), boxSP w1.heap.size (.cells #[.int .i64 0, .int .i64 0, .int .i64 0, .int .i64 0, .int .i64 0, .int .i64 0, .int .i64 0, .int .i64 0, .int .i64 0, .bool false] 23), anyV] (by kernel_rfl) (by kernel_rfl) (by rfl) ?owes ?ends
  case owes =>
    refine OwesAll.cons (k := 0) ?_ ?_
    · intro o ho a wx hS hold hdep K hK
      simp only [List.getElem?_toArray, List.getElem?_cons_succ, List.getElem?_cons_zero, Option.some.injEq] at ho
      subst ho
      have HK := Lib.hid hK
      clear hK
      have d0 : a.tmps.getD 0 undef = .int .i64 id := hold 0 (unset_of (by kernel_rfl))
      clear hold hdep
      rw [Array.getD_eq_getD_getElem?] at d0
      rw [if_pos (by rfl)]
      go_simp
      exact HK.out _ _ rfl (Below.refl _ _)
    refine OwesAll.cons (k := 1) ?_ ?_
    · intro o ho a wx hS hold hdep K hK
      simp only [List.getElem?_toArray, List.getElem?_cons_succ, List.getElem?_cons_zero, Option.some.injEq] at ho
      subst ho
      have HK := Lib.hid hK
      clear hK
      have d1 : a.tmps.getD 1 undef = .string s := hold 1 (unset_of (by kernel_rfl))
      clear hold hdep
      rw [Array.getD_eq_getD_getElem?] at d1
      rw [if_pos (by rfl)]
      go_simp
      exact HK.out _ _ rfl (Below.refl _ _)
    refine OwesAll.cons (k := 2) ?_ ?_
    · intro o ho a wx hS hold hdep K hK
      simp only [List.getElem?_toArray, List.getElem?_cons_succ, List.getElem?_cons_zero, Option.some.injEq] at ho
      subst ho
      have HK := Lib.hid hK
      clear hK
      have d18 : a.tmps.getD 18 undef = .string s := dep_at hdep 1 rfl rfl (by kernel_rfl)
      clear hold hdep
      rw [Array.getD_eq_getD_getElem?] at d18
      rw [if_pos (by rfl)]
      go_simp
      go_wp2_with fail
      refine (reftake_is s t0 0 3 n0 _ (by decide) (by omega) (by decide) E0.out N0.out).mono ?_
      rintro e w9 ⟨rfl, b9⟩
      exact HK.out _ _ rfl b9
    refine OwesAll.cons (k := 3) ?_ ?_
    · intro o ho a wx hS hold hdep K hK
      simp only [List.getElem?_toArray, List.getElem?_cons_succ, List.getElem?_cons_zero, Option.some.injEq] at ho
      subst ho
      have HK := Lib.hid hK
      clear hK
      have d1 : a.tmps.getD 1 undef = .string s := hold 1 (unset_of (by kernel_rfl))
      clear hold hdep
      rw [Array.getD_eq_getD_getElem?] at d1
      rw [if_pos (by rfl)]
      go_simp
      exact HK.out _ _ rfl (Below.refl _ _)
    refine OwesAll.cons (k := 4) ?_ ?_
    · intro o ho a wx hS hold hdep K hK
      simp only [List.getElem?_toArray, List.getElem?_cons_succ, List.getElem?_cons_zero, Option.some.injEq] at ho
      subst ho
      have HK := Lib.hid hK
      clear hK
      have d20 : a.tmps.getD 20 undef = .string s := dep_at hdep 3 rfl rfl (by kernel_rfl)
      clear hold hdep
      rw [Array.getD_eq_getD_getElem?] at d20
      rw [if_pos (by rfl)]
      go_simp
      go_wp2_with fail
      refine (reftake_is s t1 3 3 n1 _ (by decide) (by omega) (by decide) E1.out N1.out).mono ?_
      rintro e w9 ⟨rfl, b9⟩
      exact HK.out _ _ rfl b9
    refine OwesAll.cons (k := 5) ?_ ?_
    · intro o ho a wx hS hold hdep K hK
      simp only [List.getElem?_toArray, List.getElem?_cons_succ, List.getElem?_cons_zero, Option.some.injEq] at ho
      subst ho
      have HK := Lib.hid hK
      clear hK
      have d1 : a.tmps.getD 1 undef = .string s := hold 1 (unset_of (by kernel_rfl))
      clear hold hdep
      rw [Array.getD_eq_getD_getElem?] at d1
      rw [if_pos (by rfl)]
      go_simp
      exact HK.out _ _ rfl (Below.refl _ _)
    refine OwesAll.cons (k := 6) ?_ ?_
    · intro o ho a wx hS hold hdep K hK
      simp only [List.getElem?_toArray, List.getElem?_cons_succ, List.getElem?_cons_zero, Option.some.injEq] at ho
      subst ho
      have HK := Lib.hid hK
      clear hK
      have d22 : a.tmps.getD 22 undef = .string s := dep_at hdep 5 rfl rfl (by kernel_rfl)
      clear hold hdep
      rw [Array.getD_eq_getD_getElem?] at d22
      rw [if_pos (by rfl)]
      go_simp
      go_wp2_with fail
      refine (reftake_is s t2 6 3 n2 _ (by decide) (by omega) (by decide) E2.out N2.out).mono ?_
      rintro e w9 ⟨rfl, b9⟩
      exact HK.out _ _ rfl b9
    refine OwesAll.cons (k := 7) ?_ ?_
    · intro o ho a wx hS hold hdep K hK
      simp only [List.getElem?_toArray, List.getElem?_cons_succ, List.getElem?_cons_zero, Option.some.injEq] at ho
      subst ho
      have HK := Lib.hid hK
      clear hK
      have d1 : a.tmps.getD 1 undef = .string s := hold 1 (unset_of (by kernel_rfl))
      clear hold hdep
      rw [Array.getD_eq_getD_getElem?] at d1
      rw [if_pos (by rfl)]
      go_simp
      exact HK.out _ _ rfl (Below.refl _ _)
    refine OwesAll.cons (k := 8) ?_ ?_
    · intro o ho a wx hS hold hdep K hK
      simp only [List.getElem?_toArray, List.getElem?_cons_succ, List.getElem?_cons_zero, Option.some.injEq] at ho
      subst ho
      have HK := Lib.hid hK
      clear hK
      have d24 : a.tmps.getD 24 undef = .string s := dep_at hdep 7 rfl rfl (by kernel_rfl)
      clear hold hdep
      rw [Array.getD_eq_getD_getElem?] at d24
      rw [if_pos (by rfl)]
      go_simp
      go_wp2_with fail
      refine (reftake_is s t3 9 2 n3 _ (by decide) (by omega) (by decide) E3.out N3.out).mono ?_
      rintro e w9 ⟨rfl, b9⟩
      exact HK.out _ _ rfl b9
    refine OwesAll.cons (k := 9) ?_ ?_
    · intro o ho a wx hS hold hdep K hK
      simp only [List.getElem?_toArray, List.getElem?_cons_succ, List.getElem?_cons_zero, Option.some.injEq] at ho
      subst ho
      have HK := Lib.hid hK
      clear hK
      have d1 : a.tmps.getD 1 undef = .string s := hold 1 (unset_of (by kernel_rfl))
      clear hold hdep
      rw [Array.getD_eq_getD_getElem?] at d1
      rw [if_pos (by rfl)]
      go_simp
      exact HK.out _ _ rfl (Below.refl _ _)
    refine OwesAll.cons (k := 10) ?_ ?_
    · intro o ho a wx hS hold hdep K hK
      simp only [List.getElem?_toArray, List.getElem?_cons_succ, List.getElem?_cons_zero, Option.some.injEq] at ho
      subst ho
      have HK := Lib.hid hK
      clear hK
      have d26 : a.tmps.getD 26 undef = .string s := dep_at hdep 9 rfl rfl (by kernel_rfl)
      clear hold hdep
      rw [Array.getD_eq_getD_getElem?] at d26
      rw [if_pos (by rfl)]
      go_simp
      go_wp2_with fail
      refine (reftake_is s t4 11 4 n4 _ (by decide) (by omega) (by decide) E4.out N4.out).mono ?_
      rintro e w9 ⟨rfl, b9⟩
      exact HK.out _ _ rfl b9
    refine OwesAll.cons (k := 11) ?_ ?_
    · intro o ho a wx hS hold hdep K hK
      simp only [List.getElem?_toArray, List.getElem?_cons_succ, List.getElem?_cons_zero, Option.some.injEq] at ho
      subst ho
      have HK := Lib.hid hK
      clear hK
      have d1 : a.tmps.getD 1 undef = .string s := hold 1 (unset_of (by kernel_rfl))
      clear hold hdep
      rw [Array.getD_eq_getD_getElem?] at d1
      rw [if_pos (by rfl)]
      go_simp
      exact HK.out _ _ rfl (Below.refl _ _)
    refine OwesAll.cons (k := 12) ?_ ?_
    · intro o ho a wx hS hold hdep K hK
      simp only [List.getElem?_toArray, List.getElem?_cons_succ, List.getElem?_cons_zero, Option.some.injEq] at ho
      subst ho
      have HK := Lib.hid hK
      clear hK
      have d28 : a.tmps.getD 28 undef = .string s := dep_at hdep 11 rfl rfl (by kernel_rfl)
      clear hold hdep
      rw [Array.getD_eq_getD_getElem?] at d28
      rw [if_pos (by rfl)]
      go_simp
      go_wp2_with fail
      refine (reftake_is s t5 15 1 n5 _ (by decide) (by omega) (by decide) E5.out N5.out).mono ?_
      rintro e w9 ⟨rfl, b9⟩
      exact HK.out _ _ rfl b9
    refine OwesAll.cons (k := 13) ?_ ?_
    · intro o ho a wx hS hold hdep K hK
      simp only [List.getElem?_toArray, List.getElem?_cons_succ, List.getElem?_cons_zero, Option.some.injEq] at ho
      subst ho
      have HK := Lib.hid hK
      clear hK
      have d1 : a.tmps.getD 1 undef = .string s := hold 1 (unset_of (by kernel_rfl))
      clear hold hdep
      rw [Array.getD_eq_getD_getElem?] at d1
      rw [if_pos (by rfl)]
      go_simp
      exact HK.out _ _ rfl (Below.refl _ _)
    refine OwesAll.cons (k := 14) ?_ ?_
    · intro o ho a wx hS hold hdep K hK
      simp only [List.getElem?_toArray, List.getElem?_cons_succ, List.getElem?_cons_zero, Option.some.injEq] at ho
      subst ho
      have HK := Lib.hid hK
      clear hK
      have d30 : a.tmps.getD 30 undef = .string s := dep_at hdep 13 rfl rfl (by kernel_rfl)
      clear hold hdep
      rw [Array.getD_eq_getD_getElem?] at d30
      rw [if_pos (by rfl)]
      go_simp
      go_wp2_with fail
      refine (reftake_is s t6 16 4 n6 _ (by decide) (by omega) (by decide) E6.out N6.out).mono ?_
      rintro e w9 ⟨rfl, b9⟩
      exact HK.out _ _ rfl b9
    refine OwesAll.cons (k := 15) ?_ ?_
    · intro o ho a wx hS hold hdep K hK
      simp only [List.getElem?_toArray, List.getElem?_cons_succ, List.getElem?_cons_zero, Option.some.injEq] at ho
      subst ho
      have HK := Lib.hid hK
      clear hK
      have d1 : a.tmps.getD 1 undef = .string s := hold 1 (unset_of (by kernel_rfl))
      clear hold hdep
      rw [Array.getD_eq_getD_getElem?] at d1
      rw [if_pos (by rfl)]
      go_simp
      exact HK.out _ _ rfl (Below.refl _ _)
    refine OwesAll.cons (k := 16) ?_ ?_
    · intro o ho a wx hS hold hdep K hK
      simp only [List.getElem?_toArray, List.getElem?_cons_succ, List.getElem?_cons_zero, Option.some.injEq] at ho
      subst ho
      have HK := Lib.hid hK
      clear hK
      have d32 : a.tmps.getD 32 undef = .string s := dep_at hdep 15 rfl rfl (by kernel_rfl)
      clear hold hdep
      rw [Array.getD_eq_getD_getElem?] at d32
      rw [if_pos (by rfl)]
      go_simp
      go_wp2_with fail
      refine (reftake_is s t7 20 3 n7 _ (by decide) (by omega) (by decide) E7.out N7.out).mono ?_
      rintro e w9 ⟨rfl, b9⟩
      exact HK.out _ _ rfl b9
    refine OwesAll.cons (k := 17) ?_ ?_
    · intro o ho a wx hS hold hdep K hK
      simp only [List.getElem?_toArray, List.getElem?_cons_succ, List.getElem?_cons_zero, Option.some.injEq] at ho
      subst ho
      have HK := Lib.hid hK
      clear hK
      have d1 : a.tmps.getD 1 undef = .string s := hold 1 (unset_of (by kernel_rfl))
      clear hold hdep
      rw [Array.getD_eq_getD_getElem?] at d1
      rw [if_pos (by rfl)]
      go_simp
      exact HK.out _ _ rfl (Below.refl _ _)
    refine OwesAll.cons (k := 18) ?_ ?_
    · intro o ho a wx hS hold hdep K hK
      simp only [List.getElem?_toArray, List.getElem?_cons_succ, List.getElem?_cons_zero, Option.some.injEq] at ho
      subst ho
      have HK := Lib.hid hK
      clear hK
      have d34 : a.tmps.getD 34 undef = .string s := dep_at hdep 17 rfl rfl (by kernel_rfl)
      clear hold hdep
      rw [Array.getD_eq_getD_getElem?] at d34
      rw [if_pos (by rfl)]
      go_simp
      refine HK.out _ _ ?_ (Below.refl _ _)
      show _ = _
      rw [← hc.out]
    refine OwesAll.cons (k := 19) ?_ ?_
    · intro o ho a wx hS hold hdep K hK
      simp only [List.getElem?_toArray, List.getElem?_cons_succ, List.getElem?_cons_zero, Option.some.injEq] at ho
      subst ho
      have HK := Lib.hid hK
      clear hK
      have d35 : a.tmps.getD 35 undef = .int .u8 (c : Int) := dep_at hdep 18 rfl rfl (by kernel_rfl)
      clear hold hdep
      rw [Array.getD_eq_getD_getElem?] at d35
      rw [if_pos (by rfl)]
      go_simp
      refine HK.out _ _ ?_ (Below.refl _ _)
      show _ = _
      rw [← hb.out]
    refine OwesAll.cons (k := 20) ?_ ?_
    · intro o ho a wx hS hold hdep K hK
      simp only [List.getElem?_toArray, List.getElem?_cons_succ, List.getElem?_cons_zero, Option.some.injEq] at ho
      subst ho
      have HK := Lib.hid hK
      clear hK
      have d17 : a.tmps.getD 17 undef = .int .i64 id := dep_at hdep 0 rfl rfl (by kernel_rfl)
      have d19 : a.tmps.getD 19 undef = .int .i64 n0 := dep_at hdep 2 rfl rfl (by kernel_rfl)
      have d21 : a.tmps.getD 21 undef = .int .i64 n1 := dep_at hdep 4 rfl rfl (by kernel_rfl)
      have d23 : a.tmps.getD 23 undef = .int .i64 n2 := dep_at hdep 6 rfl rfl (by kernel_rfl)
      have d25 : a.tmps.getD 25 undef = .int .i64 n3 := dep_at hdep 8 rfl rfl (by kernel_rfl)
      have d27 : a.tmps.getD 27 undef = .int .i64 n4 := dep_at hdep 10 rfl rfl (by kernel_rfl)
      have d29 : a.tmps.getD 29 undef = .int .i64 n5 := dep_at hdep 12 rfl rfl (by kernel_rfl)
      have d31 : a.tmps.getD 31 undef = .int .i64 n6 := dep_at hdep 14 rfl rfl (by kernel_rfl)
      have d33 : a.tmps.getD 33 undef = .int .i64 n7 := dep_at hdep 16 rfl rfl (by kernel_rfl)
      have d36 : a.tmps.getD 36 undef = .bool b := dep_at hdep 19 rfl rfl (by kernel_rfl)
      clear hold hdep
      rw [Array.getD_eq_getD_getElem?] at d17
      rw [Array.getD_eq_getD_getElem?] at d19
      rw [Array.getD_eq_getD_getElem?] at d21
      rw [Array.getD_eq_getD_getElem?] at d23
      rw [Array.getD_eq_getD_getElem?] at d25
      rw [Array.getD_eq_getD_getElem?] at d27
      rw [Array.getD_eq_getD_getElem?] at d29
      rw [Array.getD_eq_getD_getElem?] at d31
      rw [Array.getD_eq_getD_getElem?] at d33
      rw [Array.getD_eq_getD_getElem?] at d36
      rw [if_pos (by rfl)]
      go_simp
      exact HK.out _ _ rfl (Below.refl _ _)
    refine OwesAll.cons (k := 21) ?_ ?_
    · intro o ho a wx hS hold hdep K hK
      simp only [List.getElem?_toArray, List.getElem?_cons_succ, List.getElem?_cons_zero, Option.some.injEq] at ho
      subst ho
      have HK := Lib.hid hK
      clear hK
      clear hold hdep
      rw [if_pos (by rfl)]
      go_simp
      exact HK.out _ _ ⟨_, rfl, heap_alloc_new _ _, hS.size⟩ (below_made _ _)
    refine OwesAll.skip (f := 22) ?_
    exact OwesAll.nil
  case ends =>
    intro a wx hS hsz hdf hold hdone
    simp only [List.getElem?_toArray, List.getElem?_cons_succ, List.getElem?_cons_zero]
    intro K9 hK9
    have HK := Lib.hid hK9
    clear hK9
    obtain ⟨g6, d6, z6, l6⟩ : ∃ g, a.tmps.getD 6 undef = .pointer (some ⟨g, 0, none⟩) ∧ wx.heap[g]? = some (.cells #[.int .i64 0, .int .i64 0, .int .i64 0, .int .i64 0, .int .i64 0, .int .i64 0, .int .i64 0, .int .i64 0, .int .i64 0, .bool false] 23) ∧ w1.heap.size ≤ g := hdone 21 _ 6 rfl (by decide) rfl
    have d37 : a.tmps.getD 37 undef = .agg #[.int .i64 id, .int .i64 n0, .int .i64 n1, .int .i64 n2, .int .i64 n3, .int .i64 n4, .int .i64 n5, .int .i64 n6, .int .i64 n7, .bool b] := hdone 20 _ 37 rfl (by decide) rfl
    have hsz' : a.tmps.size = 44 := hsz
    have hdf' : a.defers = [] := hdf
    have ha := act_lit hsz' hdf'
    have e0 := hold 0 (unset_of (by kernel_rfl))
    have e1 := hold 1 (unset_of (by kernel_rfl))
    have e2 := hold 2 (unset_of (by kernel_rfl))
    have e3 := hold 3 (unset_of (by kernel_rfl))
    have e4 := hold 4 (unset_of (by kernel_rfl))
    have e5 := hold 5 (unset_of (by kernel_rfl))
    have e7 := hold 7 (unset_of (by kernel_rfl))
    have e8 := hold 8 (unset_of (by kernel_rfl))
    have e9 := hold 9 (unset_of (by kernel_rfl))
    have e10 := hold 10 (unset_of (by kernel_rfl))
    have e11 := hold 11 (unset_of (by kernel_rfl))
    have e12 := hold 12 (unset_of (by kernel_rfl))
    have e13 := hold 13 (unset_of (by kernel_rfl))
    have e14 := hold 14 (unset_of (by kernel_rfl))
    have e15 := hold 15 (unset_of (by kernel_rfl))
    have e16 := hold 16 (unset_of (by kernel_rfl))
    have e38 := hold 38 (unset_of (by kernel_rfl))
    have e39 := hold 39 (unset_of (by kernel_rfl))
    have e40 := hold 40 (unset_of (by kernel_rfl))
    have e41 := hold 41 (unset_of (by kernel_rfl))
    have e42 := hold 42 (unset_of (by kernel_rfl))
    have e43 := hold 43 (unset_of (by kernel_rfl))
    clear hold hdone hsz hdf hsz' hdf'
    simp only [Array.getD_eq_getD_getElem?, List.getElem?_toArray, List.getElem?_cons_succ, List.getElem?_cons_zero, Option.getD_some] at e0 e1 e2 e3 e4 e5 e7 e8 e9 e10 e11 e12 e13 e14 e15 e16 e38 e39 e40 e41 e42 e43 d6 d37
    simp only [show (List.range 44) = [0, 1, 2, 3, 4, 5, 6, 7, 8, 9, 10, 11, 12, 13, 14, 15, 16, 17, 18, 19, 20, 21, 22, 23, 24, 25, 26, 27, 28, 29, 30, 31, 32, 33, 34, 35, 36, 37, 38, 39, 40, 41, 42, 43] from rfl, List.map_cons, List.map_nil] at ha
    simp only [e0, e1, e2, e3, e4, e5, e7, e8, e9, e10, e11, e12, e13, e14, e15, e16, e38, e39, e40, e41, e42, e43, d6, d37] at ha
    clear e0 e1 e2 e3 e4 e5 e7 e8 e9 e10 e11 e12 e13 e14 e15 e16 e38 e39 e40 e41 e42 e43 d6 d37
    generalize a.tmps[17]?.getD undef = u17 at ha
    generalize a.tmps[18]?.getD undef = u18 at ha
    generalize a.tmps[19]?.getD undef = u19 at ha
    generalize a.tmps[20]?.getD undef = u20 at ha
    generalize a.tmps[21]?.getD undef = u21 at ha
    generalize a.tmps[22]?.getD undef = u22 at ha
    generalize a.tmps[23]?.getD undef = u23 at ha
    generalize a.tmps[24]?.getD undef = u24 at ha
    generalize a.tmps[25]?.getD undef = u25 at ha
    generalize a.tmps[26]?.getD undef = u26 at ha
    generalize a.tmps[27]?.getD undef = u27 at ha
    generalize a.tmps[28]?.getD undef = u28 at ha
    generalize a.tmps[29]?.getD undef = u29 at ha
    generalize a.tmps[30]?.getD undef = u30 at ha
    generalize a.tmps[31]?.getD undef = u31 at ha
    generalize a.tmps[32]?.getD undef = u32 at ha
    generalize a.tmps[33]?.getD undef = u33 at ha
    generalize a.tmps[34]?.getD undef = u34 at ha
    generalize a.tmps[35]?.getD undef = u35 at ha
    generalize a.tmps[36]?.getD undef = u36 at ha
    subst ha
    have y0 : wx.cell? ⟨g6, 0, none⟩ = some (.int .i64 0) := by rw [Go.Joins.cell_of_block z6]; rfl
    have f0 := Go.Joins.unfrozen_of_block z6 0
    have y1 : wx.cell? ⟨g6, 1, none⟩ = some (.int .i64 0) := by rw [Go.Joins.cell_of_block z6]; rfl
    have f1 := Go.Joins.unfrozen_of_block z6 1
    have y2 : wx.cell? ⟨g6, 2, none⟩ = some (.int .i64 0) := by rw [Go.Joins.cell_of_block z6]; rfl
    have f2 := Go.Joins.unfrozen_of_block z6 2
    have y3 : wx.cell? ⟨g6, 3, none⟩ = some (.int .i64 0) := by rw [Go.Joins.cell_of_block z6]; rfl
    have f3 := Go.Joins.unfrozen_of_block z6 3
    have y4 : wx.cell? ⟨g6, 4, none⟩ = some (.int .i64 0) := by rw [Go.Joins.cell_of_block z6]; rfl
    have f4 := Go.Joins.unfrozen_of_block z6 4
    have y5 : wx.cell? ⟨g6, 5, none⟩ = some (.int .i64 0) := by rw [Go.Joins.cell_of_block z6]; rfl
    have f5 := Go.Joins.unfrozen_of_block z6 5
    have y6 : wx.cell? ⟨g6, 6, none⟩ = some (.int .i64 0) := by rw [Go.Joins.cell_of_block z6]; rfl
    have f6 := Go.Joins.unfrozen_of_block z6 6
    have y7 : wx.cell? ⟨g6, 7, none⟩ = some (.int .i64 0) := by rw [Go.Joins.cell_of_block z6]; rfl
    have f7 := Go.Joins.unfrozen_of_block z6 7
    have y8 : wx.cell? ⟨g6, 8, none⟩ = some (.int .i64 0) := by rw [Go.Joins.cell_of_block z6]; rfl
    have f8 := Go.Joins.unfrozen_of_block z6 8
    have y9 : wx.cell? ⟨g6, 9, none⟩ = some (.bool false) := by rw [Go.Joins.cell_of_block z6]; rfl
    have f9 := Go.Joins.unfrozen_of_block z6 9
    rw [if_pos (by rfl)]
    have hgne : g6 ≠ w.heap.size := by omega
    have hx6 : wx.heap[w.heap.size]? = some (.cells #[.int .i64 0, .int .i64 0, .int .i64 0, .int .i64 0, .int .i64 0, .int .i64 0, .int .i64 0, .int .i64 0, .int .i64 0, .bool false] 23) := kept K.out hS
    have RV0 := setN_heap g6 23 (0, 0) [.int .i64 id, .int .i64 n0, .int .i64 n1, .int .i64 n2, .int .i64 n3, .int .i64 n4, .int .i64 n5, .int .i64 n6, .int .i64 n7, .bool b] wx 0 _ z6 rfl
    have RR0 := setN_other (g := g6) (k := w.heap.size) (by omega) [.int .i64 id, .int .i64 n0, .int .i64 n1, .int .i64 n2, .int .i64 n3, .int .i64 n4, .int .i64 n5, .int .i64 n6, .int .i64 n7, .bool b] wx 0 hx6
    have BV0 := setN_below (w0 := w) (B := w.heap.size) g6 (by omega) [.int .i64 id, .int .i64 n0, .int .i64 n1, .int .i64 n2, .int .i64 n3, .int .i64 n4, .int .i64 n5, .int .i64 n6, .int .i64 n7, .bool b] wx 0 (chain B.out hS)
    obtain ⟨wz, hwz⟩ : ∃ wz, setN wx g6 0 [.int .i64 id, .int .i64 n0, .int .i64 n1, .int .i64 n2, .int .i64 n3, .int .i64 n4, .int .i64 n5, .int .i64 n6, .int .i64 n7, .bool b] = wz := ⟨_, rfl⟩
    rw [hwz] at RV0 RR0 BV0
    have RV := Lib.hid RV0
    have RR := Lib.hid RR0
    have BV := Lib.hid BV0
    have LG := Lib.hid l6
    have hwz' : ((((((((((wx.setCell ⟨g6, 0, none⟩ (.int .i64 id)).setCell ⟨g6, 1, none⟩ (.int .i64 n0)).setCell ⟨g6, 2, none⟩ (.int .i64 n1)).setCell ⟨g6, 3, none⟩ (.int .i64 n2)).setCell ⟨g6, 4, none⟩ (.int .i64 n3)).setCell ⟨g6, 5, none⟩ (.int .i64 n4)).setCell ⟨g6, 6, none⟩ (.int .i64 n5)).setCell ⟨g6, 7, none⟩ (.int .i64 n6)).setCell ⟨g6, 8, none⟩ (.int .i64 n7)).setCell ⟨g6, 9, none⟩ (.bool b)) = wz := hwz
    clear RV0 RR0 BV0 hwz hx6 z6 hS B K lt0
    go_simp
    refine HK.out _ _ ?_
    try rw [hwz']
    clear hwz' y0 f0 y1 f1 y2 f2 y3 f3 y4 f4 y5 f5 y6 f6 y7 f7 y8 f8 y9 f9 HK K9
    obtain ⟨p0, p1, p2, p3, p4, p5, p6, p7, p8, p9⟩ := cells10 RV.out
    go_wp2_with fail
    refine (refCapRight_is _ _ _ _ _ _ _ _ _ _ v _ hv.out).mono ?_
    rintro e' w4 ⟨rfl, b4⟩
    clear p0 p1 p2 p3 p4 p5 p6 p7 p8 p9
    have X := Lib.hid (kept RV.out b4)
    have R := Lib.hid (kept RR.out b4)
    have BB := Lib.hid (chain BV.out b4)
    clear b4
    obtain ⟨x0, x1, x2, x3, x4, x5, x6, x7, x8, x9⟩ := cells10 X.out
    obtain ⟨r0, r1, r2, r3, r4, r5, r6, r7, r8, r9⟩ := cells10 R.out
    have f0 := Go.Joins.unfrozen_of_block R.out 0
    have f1 := Go.Joins.unfrozen_of_block R.out 1
    have f2 := Go.Joins.unfrozen_of_block R.out 2
    have f3 := Go.Joins.unfrozen_of_block R.out 3
    have f4 := Go.Joins.unfrozen_of_block R.out 4
    have f5 := Go.Joins.unfrozen_of_block R.out 5
    have f6 := Go.Joins.unfrozen_of_block R.out 6
    have f7 := Go.Joins.unfrozen_of_block R.out 7
    have f8 := Go.Joins.unfrozen_of_block R.out 8
    have f9 := Go.Joins.unfrozen_of_block R.out 9
    clear LG hk hx hb E0 E1 E2 E3 E4 E5 E6 E7 N0 N1 N2 N3 N4 N5 N6 N7 X BV RR RV
    cases v
    · clear x0 x1 x2 x3 x4 x5 x6 x7 x8 x9
      go_wp2_with fail
      exact bodyPost_ret (v := .tuple #[.agg #[.int .i64 0, .int .i64 0, .int .i64 0, .int .i64 0, .int .i64 0, .int .i64 0, .int .i64 0, .int .i64 0, .int .i64 0, .bool false], .bool false]) (results_row_tmp Try.results13 _ _ w.heap.size 23 _ (0, 0) _ _ rfl rfl (setN_heap w.heap.size 23 (0, 0) [.int .i64 0, .int .i64 0, .int .i64 0, .int .i64 0, .int .i64 0, .int .i64 0, .int .i64 0, .int .i64 0, .int .i64 0, .bool false] w4 0 _ R.out rfl) Try.underlying23 rfl size_cap) rfl ⟨rfl, setN_below w.heap.size (Nat.le_refl _) [.int .i64 0, .int .i64 0, .int .i64 0, .int .i64 0, .int .i64 0, .int .i64 0, .int .i64 0, .int .i64 0, .int .i64 0, .bool false] w4 0 BB.out⟩
    · go_wp2_with fail
      exact bodyPost_ret (v := .tuple #[.agg #[.int .i64 id, .int .i64 n0, .int .i64 n1, .int .i64 n2, .int .i64 n3, .int .i64 n4, .int .i64 n5, .int .i64 n6, .int .i64 n7, .bool b], .bool true]) (results_row_tmp Try.results13 _ _ w.heap.size 23 _ (0, 0) _ _ rfl rfl (setN_heap w.heap.size 23 (0, 0) [.int .i64 id, .int .i64 n0, .int .i64 n1, .int .i64 n2, .int .i64 n3, .int .i64 n4, .int .i64 n5, .int .i64 n6, .int .i64 n7, .bool b] w4 0 _ R.out rfl) Try.underlying23 rfl size_cap) rfl ⟨rfl, setN_below w.heap.size (Nat.le_refl _) [.int .i64 id, .int .i64 n0, .int .i64 n1, .int .i64 n2, .int .i64 n3, .int .i64 n4, .int .i64 n5, .int .i64 n6, .int .i64 n7, .bool b] w4 0 BB.out⟩
theorem refTakeCap_any (id : Int) (s : ByteArray) (w : World) :
    Calls Try.prog 13 #[.int .i64 id, .string s] w fun e w' => e = .returned (.tuple #[tcapV id s, .bool (tcapOk id s)]) ∧ Below w.heap.size w w' := by
  by_cases hk : s.size = 24
  · have h23 : 23 < s.size := by omega
    have hl := last_at s hk h23
    by_cases hx : 1 < s[23].toNat
    · have := refTakeCap_big id s w hk h23 hx
      have hb : tcapOk id s = false := by
        apply tcap_big
        unfold tcap8
        have e8 : (takeR (takeR (takeR (takeR (takeR (takeR (takeR (takeR s 3) 3) 3) 2) 4) 1) 4) 3) = s.extract 23 s.size := by
          have f1 := takeR_first s (k := 3) (by decide) (by decide) (by omega)
          have f2 : (takeR (takeR s 3) 3) = s.extract 6 s.size := by rw [f1]; exact takeR_off s (k := 3) 3 (by decide) (by decide) (by omega)
          have f3 : (takeR (takeR (takeR s 3) 3) 3) = s.extract 9 s.size := by rw [f2]; exact takeR_off s (k := 3) 6 (by decide) (by decide) (by omega)
          have f4 : (takeR (takeR (takeR (takeR s 3) 3) 3) 2) = s.extract 11 s.size := by rw [f3]; exact takeR_off s (k := 2) 9 (by decide) (by decide) (by omega)
          have f5 : (takeR (takeR (takeR (takeR (takeR s 3) 3) 3) 2) 4) = s.extract 15 s.size := by rw [f4]; exact takeR_off s (k := 4) 11 (by decide) (by decide) (by omega)
          have f6 : (takeR (takeR (takeR (takeR (takeR (takeR s 3) 3) 3) 2) 4) 1) = s.extract 16 s.size := by rw [f5]; exact takeR_off s (k := 1) 15 (by decide) (by decide) (by omega)
          have f7 : (takeR (takeR (takeR (takeR (takeR (takeR (takeR s 3) 3) 3) 2) 4) 1) 4) = s.extract 20 s.size := by rw [f6]; exact takeR_off s (k := 4) 16 (by decide) (by decide) (by omega)
          have f8 : (takeR (takeR (takeR (takeR (takeR (takeR (takeR (takeR s 3) 3) 3) 2) 4) 1) 4) 3) = s.extract 23 s.size := by rw [f7]; exact takeR_off s (k := 3) 20 (by decide) (by decide) (by omega)
          exact f8
        rw [e8, hl]
        omega
      unfold tcapV
      rw [hb]
      exact this
    · have e8 : tcap8 s = (s[23].toNat : Int) := by
        have f1 := takeR_first s (k := 3) (by decide) (by decide) (by omega)
        have f2 : (takeR (takeR s 3) 3) = s.extract 6 s.size := by rw [f1]; exact takeR_off s (k := 3) 3 (by decide) (by decide) (by omega)
        have f3 : (takeR (takeR (takeR s 3) 3) 3) = s.extract 9 s.size := by rw [f2]; exact takeR_off s (k := 3) 6 (by decide) (by decide) (by omega)
        have f4 : (takeR (takeR (takeR (takeR s 3) 3) 3) 2) = s.extract 11 s.size := by rw [f3]; exact takeR_off s (k := 2) 9 (by decide) (by decide) (by omega)
        have f5 : (takeR (takeR (takeR (takeR (takeR s 3) 3) 3) 2) 4) = s.extract 15 s.size := by rw [f4]; exact takeR_off s (k := 4) 11 (by decide) (by decide) (by omega)
        have f6 : (takeR (takeR (takeR (takeR (takeR (takeR s 3) 3) 3) 2) 4) 1) = s.extract 16 s.size := by rw [f5]; exact takeR_off s (k := 1) 15 (by decide) (by decide) (by omega)
        have f7 : (takeR (takeR (takeR (takeR (takeR (takeR (takeR s 3) 3) 3) 2) 4) 1) 4) = s.extract 20 s.size := by rw [f6]; exact takeR_off s (k := 4) 16 (by decide) (by decide) (by omega)
        have f8 : (takeR (takeR (takeR (takeR (takeR (takeR (takeR (takeR s 3) 3) 3) 2) 4) 1) 4) 3) = s.extract 23 s.size := by rw [f7]; exact takeR_off s (k := 3) 20 (by decide) (by decide) (by omega)
        unfold tcap8
        rw [f8, hl]
      have h1 : tcap8 s ≤ 1 := by omega
      obtain ⟨_, q1, q2, q3, q4, q5, q6, q7, q8⟩ := tcap_pieces s hk h1
      have := refTakeCap_long id (tcap0 s) (tcap1 s) (tcap2 s) (tcap3 s) (tcap4 s) (tcap5 s) (tcap6 s) (tcap7 s) _ (tcap8 s == 1) (tcapOk id s) s _ _ _ _ _ _ _ _ w (by omega) h23 (Lib.hid rfl) (by omega) (Lib.hid (by rw [e8])) (Lib.hid rfl) (Lib.hid (by rw [extract_all]; rfl)) (Lib.hid rfl) (Lib.hid (by rw [← q1]; rfl)) (Lib.hid rfl) (Lib.hid (by rw [← q2]; rfl)) (Lib.hid rfl) (Lib.hid (by rw [← q3]; rfl)) (Lib.hid rfl) (Lib.hid (by rw [← q4]; rfl)) (Lib.hid rfl) (Lib.hid (by rw [← q5]; rfl)) (Lib.hid rfl) (Lib.hid (by rw [← q6]; rfl)) (Lib.hid rfl) (Lib.hid (by rw [← q7]; rfl)) (Lib.hid (tcap_eq id s hk h1).symm)
      exact this
  · have := refTakeCap_short id s w hk
    unfold tcapV
    rw [tcap_ne id s hk]
    exact this
end Go.Proofs.Ytlbnakoaflladaa
