/-
  Package bailiwickref14: in, put, take, and the slots: it answers what rec answers.
-/
import Derived.Test.YtlbnakoaflladaaRecBackFacts
import Derived.Test.YtlbnakoaflladaaRef01P
namespace Go.Proofs.Ytlbnakoaflladaa
open Go.RowKit
set_option linter.unusedVariables false
set_option linter.unusedSimpArgs false
theorem kept0 {w : World} {g : Nat} {o : Obj} (h : w.heap[g]? = some o) (p : Obj) : (w.alloc p).heap[g]? = some o := by
  rw [heap_alloc_old _ _ (Array.getElem?_eq_some_iff.1 h).1]; exact h
set_option maxHeartbeats 400000 in
theorem refIn_is (n lo hi : Int) (v : Bool) (w : World) (hv : inB lo hi n = v) :
    Calls Try.prog 35 #[.int .i64 n, .int .i64 lo, .int .i64 hi] w fun e w' => e = .returned (.bool v) ∧ w = w' := by
  have H := Lib.hid hv
  clear hv
  by_cases h : lo ≤ n
  all_goals
    go_enter Try.func35, Try.ntmps35
    go_wp2
    go_ret
    refine ⟨?_, rfl⟩
    rw [← H.out]
    exact ret_bool (by rw [Bool.eq_iff_iff]; simp [inB]; omega)
set_option maxHeartbeats 400000 in
theorem refput_is (n size : Int) (x : ByteArray) (w : World) (h0 : 0 ≤ n) (h1 : n ≤ 9223372036854775807) (hx : Str (putL n size) = x) :
    Calls Try.prog 30 #[.int .i64 n, .int .i64 size] w fun e w' => e = .returned (.string x) ∧ Below w.heap.size w w' := by
  subst hx
  go_enter Try.func30, Try.ntmps30
  go_wp2_with fail
  refine (refPut_any _ _ _ (by omega) (by omega)).mono ?_
  rintro e w1 ⟨rfl, b1⟩
  go_wp2_with fail
  go_ret
  exact ⟨rfl, b1⟩
set_option maxHeartbeats 400000 in
theorem reftake_is (s t : ByteArray) (p size v : Int) (w : World) (h0 : 0 ≤ p) (h1 : p ≤ s.size) (hz : size ≤ 4) (ht : s.extract p.toNat s.size = t) (hv : takeN t size = v) :
    Calls Try.prog 33 #[.string s, .int .i64 p, .int .i64 size] w fun e w' => e = .returned (.int .i64 v) ∧ Below w.heap.size w w' := by
  have hr := takeN_range t size hz
  rw [hv] at hr
  have HT := Lib.hid ht
  have HV := Lib.hid hv
  clear ht hv
  go_enter Try.func33, Try.ntmps33
  go_wp2_with fail
  rw [HT.out]
  refine (refTake_any _ _ _).mono ?_
  rw [HV.out]
  rintro e w1 ⟨rfl, b1⟩
  go_wp2_with fail
  go_ret
  exact ⟨rfl, b1⟩
set_option maxHeartbeats 800000 in
theorem refSlotRight_is (id cap ep nonce : Int) (v : Bool) (w : World) (hv : slotOk id cap ep = v) :
    Calls Try.prog 27 #[.agg #[.int .i64 id, .int .i64 cap, .int .i64 ep, .int .u64 nonce]] w fun e w' => e = .returned (.bool v) ∧ Below w.heap.size w w' := by
  have hf : v = (inB 1 200 id && inB 0 16777215 cap && inB 1 16 ep && (ep != 16 || cap == 0)) := hv.symm
  clear hv
  cases h1 : inB 1 200 id
  all_goals cases h2 : inB 0 16777215 cap
  all_goals cases h3 : inB 1 16 ep
  all_goals cases h4 : (ep != 16)
  all_goals cases h5 : (cap == 0)
  all_goals
    rw [h1, h2, h3, h4, h5] at hf
    simp only [Bool.and_true, Bool.and_false, Bool.true_and, Bool.false_and, Bool.or_true, Bool.or_false, Bool.false_or, Bool.true_or] at hf
    have h6 : ep ≤ 16 ∨ inB 1 16 ep = false := by
      cases h : inB 1 16 ep
      · exact .inr rfl
      · exact .inl (inB_iff.1 h).2
    have h7 : (ep < 16) ∨ (ep = 16) ∨ inB 1 16 ep = false := by
      rcases h6 with h | h
      · by_cases h' : ep = 16
        · exact .inr (.inl h')
        · exact .inl (by omega)
      · exact .inr (.inr h)
    have H1 := Lib.hid h1
    have H2 := Lib.hid h2
    have H3 := Lib.hid h3
    have H7 := Lib.hid h7
    have HF := Lib.hid hf
    clear h1 h2 h3 hf h6 h7
    go_enter Try.func27, Try.ntmps27
    go_wp2_with ((go_at_call 35; refine (refIn_is _ _ _ _ _ (by first | exact H1.out | exact H2.out | exact H3.out)).mono ?_; rintro e w9 ⟨rfl, rfl⟩))
    all_goals
      have h7 := H7.out
      rw [H3.out] at h7
      go_ret
      refine ⟨?_, (Below.refl _ _).alloc (Nat.le_refl _) _⟩
      rw [HF.out]
      first | rfl | (exfalso; simp at h4 h5 h7; omega) | (apply ret_bool; simp at h4 h5 h7; simp; omega)
set_option maxRecDepth 20000 in
set_option maxHeartbeats 800000 in
theorem refPutSlot_no (id cap ep nonce : Int) (w : World) (hv : slotOk id cap ep = false) :
    Calls Try.prog 23 #[.agg #[.int .i64 id, .int .i64 cap, .int .i64 ep, .int .u64 nonce]] w fun e w' => e = .returned (.tuple #[.string ⟨#[]⟩, .bool false]) ∧ Below w.heap.size w w' := by
  have H := Lib.hid hv
  clear hv
  go_enter Try.func23, Try.ntmps23
  go_wp2_with fail
  refine (refSlotRight_is _ _ _ _ false _ H.out).mono ?_
  rintro e w1 ⟨rfl, b1⟩
  go_wp2_with fail
  go_ret2
  exact ⟨rfl, ((Below.refl _ _).alloc (Nat.le_refl _) _).trans (b1.mono (by simp))⟩
set_option maxRecDepth 20000 in
set_option maxHeartbeats 800000 in
theorem refPutSlot_yes (id cap ep nonce : Int) (x y z : ByteArray) (w : World) (hv : slotOk id cap ep = true) (h5 : 0 ≤ nonce) (h6 : nonce ≤ 18446744073709551615) (hx : Hid (Str (putL cap 3) = x)) (hy : Hid (Str (putL ep 1) = y)) (hz : Hid (Str (putL nonce 8) = z)) (sx : x.size ≤ 8) (sy : y.size ≤ 8) (sz : z.size ≤ 8) :
    Calls Try.prog 23 #[.agg #[.int .i64 id, .int .i64 cap, .int .i64 ep, .int .u64 nonce]] w fun e w' => e = .returned (.tuple #[.string (x ++ y ++ z), .bool true]) ∧ Below w.heap.size w w' := by
  have H := Lib.hid hv
  obtain ⟨c0, c1, e0, e1, _, _⟩ := slotOk_in hv
  clear hv
  go_enter Try.func23, Try.ntmps23
  go_wp2_with fail
  refine (refSlotRight_is _ _ _ _ true _ H.out).mono ?_
  rintro e w1 ⟨rfl, b1⟩
  have K := Lib.hid (kept1 b1)
  have B : Hid (Below w.heap.size w w1) := Lib.hid (((Below.refl _ _).alloc (Nat.le_refl _) _).trans (b1.mono (by simp)))
  clear b1
  obtain ⟨k0, k1, k2, k3⟩ := cells4 K.out
  go_wp2_with fail
  refine (refPut_any _ _ _ h5 h6).mono ?_
  rw [hz.out]
  rintro e w2 ⟨rfl, b2⟩
  clear k0 k1 k2 k3
  replace K := Lib.hid (kept K.out b2)
  replace B := Lib.hid (chain B.out b2)
  clear b2
  have CC : Hid (∀ w', Below w2.heap.size w2 w' → w'.cell? ⟨w.heap.size, 1, none⟩ = some (.int .i64 cap) ∧ w'.cell? ⟨w.heap.size, 2, none⟩ = some (.int .i64 ep)) := Lib.hid fun w' h => by
    obtain ⟨_, k1, k2, _⟩ := cells4 (kept K.out h)
    exact ⟨k1, k2⟩
  have B0 : Below w2.heap.size w2 w2 := Below.refl _ _
  have s1 : (9223372036854775807 < x.size + y.size) = False := by rw [eq_iff_iff, iff_false]; omega
  have s2 : (9223372036854775807 < x.size + y.size + z.size) = False := by rw [eq_iff_iff, iff_false]; omega
  go_wp2_with fail
  have C0 := CC.out w2 B0
  go_region_held3 (fun w' => Below w2.heap.size w2 w' ∧ w'.cell? ⟨w.heap.size, 1, none⟩ = some (.int .i64 cap) ∧ w'.cell? ⟨w.heap.size, 2, none⟩ = some (.int .i64 ep)) (first | exact ⟨B0.drew, CC.out _ B0.drew⟩ | exact keepN CC.out ⟨B0.drew, CC.out _ B0.drew⟩ b9 | exact keepN CC.out (by assumption) b9) ((first | (go_at_call 30; refine (refput_is _ _ _ _ (by omega) (by omega) (by first | exact hx.out | exact hy.out)).mono ?_; rintro e w9 ⟨rfl, b9⟩)))
  rename_i hH
  go_wp2_with fail
  go_ret2
  exact ⟨rfl, chain B.out hH.1⟩
theorem refPutSlot_any (id cap ep nonce : Int) (w : World) (h5 : 0 ≤ nonce) (h6 : nonce ≤ 18446744073709551615) :
    Calls Try.prog 23 #[.agg #[.int .i64 id, .int .i64 cap, .int .i64 ep, .int .u64 nonce]] w fun e w' => e = .returned (.tuple #[.string (slotP id cap ep nonce), .bool (slotOk id cap ep)]) ∧ Below w.heap.size w w' := by
  cases h : slotOk id cap ep
  · have := refPutSlot_no id cap ep nonce w h
    simpa only [slotP, h, if_false, Bool.false_eq_true] using this
  · have := refPutSlot_yes id cap ep nonce _ _ _ w h h5 h6 (Lib.hid rfl) (Lib.hid rfl) (Lib.hid rfl) (putL_size _ _ (by omega)) (putL_size _ _ (by omega)) (putL_size _ _ (by omega))
    simpa only [slotP, slotB, h, if_true] using this
end Go.Proofs.Ytlbnakoaflladaa
