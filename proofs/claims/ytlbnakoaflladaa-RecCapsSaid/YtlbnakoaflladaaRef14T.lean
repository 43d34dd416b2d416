/-
  Package bailiwickref14: a slot is read.
-/
import Derived.Test.YtlbnakoaflladaaRef14
namespace Go.Proofs.Ytlbnakoaflladaa
open Go.RowKit
set_option linter.unusedVariables false
set_option linter.unusedSimpArgs false
theorem ts_pieces (s : ByteArray) (h : s.size = 12) : slotB (tsC s) (tsE s) (tsN s) = s ∧ takeR s 3 = s.extract 3 s.size ∧ takeR (takeR s 3) 1 = s.extract 4 s.size := by
  have e1 := pt_back s (k := 3) (by decide) (by decide) (by omega)
  have e2 := pt_back (takeR s 3) (k := 1) (by decide) (by decide) (by omega)
  have e3 := pt_back (takeR (takeR s 3) 1) (k := 8) (by decide) (by decide) (by omega)
  have e4 := empty_of_size (s := takeR (takeR (takeR s 3) 1) 8) (by omega)
  have f1 := takeR_first s (k := 3) (by decide) (by decide) (by omega)
  have f2 := takeR_off s (k := 1) 3 (by decide) (by decide) (by omega)
  refine ⟨?_, f1, ?_⟩
  · unfold slotB tsC tsE tsN
    have a3 := e3.1
    rw [e4, append_empty] at a3
    rw [ByteArray.append_assoc, a3, e2.1, e1.1]
  · rw [f1]; exact f2
theorem ts_eq (id : Int) (s : ByteArray) (h : s.size = 12) : tsOk id s = slotOk id (tsC s) (tsE s) := by
  unfold tsOk slotW
  rw [(ts_pieces s h).1]; simp
theorem ts_ne (id : Int) (s : ByteArray) (h : s.size ≠ 12) : tsOk id s = false := by
  cases hk : tsOk id s
  · rfl
  · exact absurd (tsOk_size hk) h
set_option maxRecDepth 20000 in
set_option maxHeartbeats 800000 in
theorem refTakeSlot_short (id : Int) (s : ByteArray) (w : World) (hk : s.size ≠ 12) :
    Calls Try.prog 25 #[.int .i64 id, .string s] w fun e w' => e = .returned (.tuple #[.agg #[.int .i64 0, .int .i64 0, .int .i64 0, .int .u64 0], .bool false]) ∧ Below w.heap.size w w' := by
  have hk' : ¬ ((s.size : Int) = 12) := by omega
  clear hk
  go_enter Try.func25, Try.ntmps25
  have R4 : (w.alloc (.cells #[.int .i64 0, .int .i64 0, .int .i64 0, .int .u64 0] 48)).heap[w.heap.size]? = some (.cells #[.int .i64 0, .int .i64 0, .int .i64 0, .int .u64 0] 48) := heap_alloc_new _ _
  go_wp2_with fail
  exact bodyPost_ret (v := .tuple #[.agg #[.int .i64 0, .int .i64 0, .int .i64 0, .int .u64 0], .bool false]) (results_row_tmp Try.results25 _ _ w.heap.size 48 _ (0, 0) _ _ rfl rfl R4 Try.underlying48 rfl size_slot) rfl ⟨rfl, (Below.refl _ _).alloc (Nat.le_refl _) _⟩
set_option maxRecDepth 20000 in
set_option maxHeartbeats 800000 in
theorem refTakeSlot_long (id c e n : Int) (s t r u : ByteArray) (v : Bool) (w : World) (hk : (s.size : Int) = 12) (h0 : Hid (s.extract 0 s.size = u)) (h3 : Hid (s.extract 3 s.size = t)) (h4 : Hid (s.extract 4 s.size = r)) (hc : Hid (takeN u 3 = c)) (he : Hid (takeN t 1 = e)) (hn : Hid (takeN r 8 = n)) (hv : Hid (slotOk id c e = v)) :
    Calls Try.prog 25 #[.int .i64 id, .string s] w fun e' w' => e' = .returned (.tuple #[if v = true then .agg #[.int .i64 id, .int .i64 c, .int .i64 e, .int .u64 n] else .agg #[.int .i64 0, .int .i64 0, .int .i64 0, .int .u64 0], .bool v]) ∧ Below w.heap.size w w' := by
  go_enter Try.func25, Try.ntmps25
  go_wp2_with fail
  rw [h4.out]
  refine (refTake_any _ _ _).mono ?_
  rw [hn.out]
  rintro e' w1 ⟨rfl, b1⟩
  have R := Lib.hid (kept1 b1)
  have B : Hid (Below w.heap.size w w1) := Lib.hid (((Below.refl _ _).alloc (Nat.le_refl _) _).trans (b1.mono (by simp)))
  clear b1
  go_wp2_with fail
  refine (reftake_is s u 0 3 c _ (by decide) (by omega) (by decide) h0.out hc.out).mono ?_
  rintro e' w2 ⟨rfl, b2⟩
  replace R := Lib.hid (kept R.out b2)
  replace B := Lib.hid (chain B.out b2)
  clear b2
  go_wp2_with fail
  refine (reftake_is s t 3 1 e _ (by decide) (by omega) (by decide) h3.out he.out).mono ?_
  rintro e' w3 ⟨rfl, b3⟩
  replace R := Lib.hid (kept R.out b3)
  replace B := Lib.hid (chain B.out b3)
  clear b3
  go_wp2_with fail
  refine (refSlotRight_is _ _ _ _ v _ hv.out).mono ?_
  rintro e' w4 ⟨rfl, b4⟩
  have X := Lib.hid (kept1 b4)
  replace R := Lib.hid (kept2 R.out b4)
  replace B := Lib.hid (chain1 B.out b4)
  clear b4
  have r0 := (cells4 R.out).1
  have r1 := (cells4 R.out).2.1
  have r2 := (cells4 R.out).2.2.1
  have r3 := (cells4 R.out).2.2.2
  have f0 := Go.Joins.unfrozen_of_block R.out 0
  have f1 := Go.Joins.unfrozen_of_block R.out 1
  have f2 := Go.Joins.unfrozen_of_block R.out 2
  have f3 := Go.Joins.unfrozen_of_block R.out 3
  obtain ⟨x0, x1, x2, x3⟩ := cells4 X.out
  have RZ := Lib.hid (setN_heap w.heap.size 48 (0, 0) [.int .i64 0, .int .i64 0, .int .i64 0, .int .u64 0] w4 0 _ R.out rfl)
  have BZ := Lib.hid (setN_below w.heap.size (Nat.le_refl _) [.int .i64 0, .int .i64 0, .int .i64 0, .int .u64 0] w4 0 B.out)
  have RV := Lib.hid (setN_heap w.heap.size 48 (0, 0) [.int .i64 id, .int .i64 c, .int .i64 e, .int .u64 n] w4 0 _ R.out rfl)
  have BV := Lib.hid (setN_below w.heap.size (Nat.le_refl _) [.int .i64 id, .int .i64 c, .int .i64 e, .int .u64 n] w4 0 B.out)
  cases v
  · go_wp2_with fail
    exact bodyPost_ret (v := .tuple #[.agg #[.int .i64 0, .int .i64 0, .int .i64 0, .int .u64 0], .bool false]) (results_row_tmp Try.results25 _ _ w.heap.size 48 _ (0, 0) _ _ rfl rfl RZ.out Try.underlying48 rfl size_slot) rfl ⟨rfl, BZ.out⟩
  · go_wp2_with fail
    exact bodyPost_ret (v := .tuple #[.agg #[.int .i64 id, .int .i64 c, .int .i64 e, .int .u64 n], .bool true]) (results_row_tmp Try.results25 _ _ w.heap.size 48 _ (0, 0) _ _ rfl rfl RV.out Try.underlying48 rfl size_slot) rfl ⟨rfl, BV.out⟩
theorem refTakeSlot_any (id : Int) (s : ByteArray) (w : World) :
    Calls Try.prog 25 #[.int .i64 id, .string s] w fun e w' => e = .returned (.tuple #[tsV id s, .bool (tsOk id s)]) ∧ Below w.heap.size w w' := by
  by_cases hk : s.size = 12
  · obtain ⟨_, e1, e2⟩ := ts_pieces s hk
    have := refTakeSlot_long id (tsC s) (tsE s) (tsN s) s _ _ _ (tsOk id s) w (by omega) (Lib.hid rfl) (Lib.hid rfl) (Lib.hid rfl) (Lib.hid (by rw [extract_all]; rfl)) (Lib.hid (by rw [← e1]; rfl)) (Lib.hid (by rw [← e2]; rfl)) (Lib.hid (ts_eq id s hk).symm)
    exact this
  · have := refTakeSlot_short id s w hk
    unfold tsV
    rw [ts_ne id s hk]
    exact this
end Go.Proofs.Ytlbnakoaflladaa
