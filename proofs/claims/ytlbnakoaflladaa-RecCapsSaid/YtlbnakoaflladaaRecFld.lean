/-
  Package rec: fields are taken off a value; a slot is read.
-/
import Derived.Test.YtlbnakoaflladaaRecSlot
import Derived.Lib.SmallJoins
namespace Go.Proofs.Ytlbnakoaflladaa
open Go.RowKit
set_option linter.unusedVariables false
set_option linter.unusedSimpArgs false

/-- The block of the fields that are left. -/
def FB (w : World) (g : Nat) (s : ByteArray) : Prop := w.heap[g]? = some (.cells #[.string s] 65)
theorem FB.lt {w : World} {g : Nat} {s : ByteArray} (h : FB w g s) : g < w.heap.size := (Array.getElem?_eq_some_iff.1 h).1
theorem FB.below {w w' : World} {g : Nat} {s : ByteArray} (h : FB w g s) (b : Below w.heap.size w w') : FB w' g s := by
  have := h.lt
  unfold FB at h ⊢
  rw [b.block g this]; exact h
theorem FB.set {w : World} {g : Nat} {s : ByteArray} (h : FB w g s) (t : ByteArray) : FB (w.setCell ⟨g, 0, none⟩ (.string t)) g t := by
  have := Go.Joins.block_setCell (i := 0) h (.string t)
  simpa [FB] using this
set_option maxHeartbeats 400000 in
theorem wide_any (g : Nat) (s : ByteArray) (size : Int) (w : World) (h : FB w g s) :
    Calls Try.prog 43 #[.pointer (some ⟨g, 0, none⟩), .int .i64 size] w fun e w' => e = .returned (.int .u64 (takeN s size)) ∧ FB w' g (takeR s size) ∧ Below g w w' := by
  have c0 : w.cell? ⟨g, 0, none⟩ = some (.string s) := by rw [Go.Joins.cell_of_block h]; rfl
  have H := Lib.hid h
  clear h
  go_enter Try.func43, Try.ntmps43
  go_wp2_with fail
  refine (take_any _ _ _).mono ?_
  rintro e w1 ⟨rfl, b1⟩
  have H1 := Lib.hid (H.out.below b1)
  have c1 : w1.cell? ⟨g, 0, none⟩ = some (.string s) := by rw [Go.Joins.cell_of_block H1.out]; rfl
  have f1 : w1.frozen? ⟨g, 0, none⟩ = false := Go.Joins.unfrozen_of_block H1.out 0
  have hb := b1.mono (Nat.le_of_lt H.out.lt)
  clear b1
  go_wp2_with fail
  go_ret
  exact ⟨rfl, H1.out.set _, hb.setCell (Nat.le_refl _) _⟩
theorem takeN_range (s : ByteArray) (size : Int) (h : size ≤ 4) : 0 ≤ takeN s size ∧ takeN s size ≤ 4294967295 := by
  unfold takeN
  split
  · rename_i hk
    have hl := M.val_lt (s.data.toList.take size.toNat)
    have : (s.data.toList.take size.toNat).length ≤ 4 := by rw [List.length_take]; omega
    have hp : 256 ^ (s.data.toList.take size.toNat).length ≤ 256 ^ 4 := Nat.pow_le_pow_right (by decide) this
    have : M.val (s.data.toList.take size.toNat) < 256 ^ 4 := Nat.lt_of_lt_of_le hl hp
    omega
  · omega
set_option maxHeartbeats 400000 in
theorem num_any (g : Nat) (s : ByteArray) (size : Int) (w : World) (h : FB w g s) (hz : size ≤ 4) :
    Calls Try.prog 31 #[.pointer (some ⟨g, 0, none⟩), .int .i64 size] w fun e w' => e = .returned (.int .i64 (takeN s size)) ∧ FB w' g (takeR s size) ∧ Below g w w' := by
  have hr := takeN_range s size hz
  have H := Lib.hid (wide_any g s size w h)
  clear h
  generalize takeN s size = n at *
  go_enter Try.func31, Try.ntmps31
  go_wp2_with fail
  refine H.out.mono ?_
  rintro e w1 ⟨rfl, f1, b1⟩
  go_wp2_with fail
  go_ret
  exact ⟨rfl, f1, b1⟩
set_option maxHeartbeats 400000 in
theorem ftext_any (g : Nat) (s : ByteArray) (w : World) (h : FB w g s) (hs : s.size ≤ 9223372036854775807) :
    Calls Try.prog 38 #[.pointer (some ⟨g, 0, none⟩)] w fun e w' => e = .returned (.string (ttS s)) ∧ FB w' g (ttR s) ∧ Below g w w' := by
  have c0 : w.cell? ⟨g, 0, none⟩ = some (.string s) := by rw [Go.Joins.cell_of_block h]; rfl
  have H := Lib.hid h
  clear h
  go_enter Try.func38, Try.ntmps38
  go_wp2_with fail
  refine (takeText_any _ _ hs).mono ?_
  rintro e w1 ⟨rfl, b1⟩
  have H1 := Lib.hid (H.out.below b1)
  have c1 : w1.cell? ⟨g, 0, none⟩ = some (.string s) := by rw [Go.Joins.cell_of_block H1.out]; rfl
  have f1 : w1.frozen? ⟨g, 0, none⟩ = false := Go.Joins.unfrozen_of_block H1.out 0
  have hb := b1.mono (Nat.le_of_lt H.out.lt)
  clear b1
  go_wp2_with fail
  go_ret
  exact ⟨rfl, H1.out.set _, hb.setCell (Nat.le_refl _) _⟩
/-- The fields of a slot that is read. -/
def tsC (s : ByteArray) : Int := takeN s 3
def tsE (s : ByteArray) : Int := takeN (takeR s 3) 1
def tsN (s : ByteArray) : Int := takeN (takeR (takeR s 3) 1) 8
def tsOk (id : Int) (s : ByteArray) : Bool := slotW id (tsC s) (tsE s) (tsN s) s
theorem results_row_tmp {P : Program} {fn : Func} {p u : Tmp} {ty : TypeId} (h : fn.results = #[.cell p ty, .tmp u]) (tmps : Array Value) (w : World) (g : Nat) (t : TypeId) (cs : Array Value) (fr : Nat × Nat) (d : TypeDesc) (v : Value)
    (hp : tmps.getD p undef = .pointer (some ⟨g, 0, none⟩)) (hv : tmps.getD u undef = v) (hg : w.heap[g]? = some (.cells cs t fr))
    (hu : P.underlying ty = some d) (hd : (match d with | .struct _ | .array _ _ => true | _ => false) = true) (hi : (P.info? ty).map (·.size) = some cs.size) :
    (results fn tmps).run P w = .ok (.tuple #[.agg cs, v]) w := by
  rw [results_cell_tmp h, hp, hv]
  simp [asAddr, run_loadVar_row w g t ty cs fr d hg hu hd hi, Result.andThen]
/-- Cells of one block, one behind the other, are written. -/
def setN (w : World) (g : Nat) (i : Nat) : List Value → World
  | [] => w
  | v :: vs => setN (w.setCell ⟨g, i, none⟩ v) g (i + 1) vs
theorem setN_heap (g : Nat) (t : TypeId) (fr : Nat × Nat) : ∀ (vs : List Value) (w : World) (i : Nat) (cs : Array Value), w.heap[g]? = some (.cells cs t fr) → i + vs.length = cs.size →
    (setN w g i vs).heap[g]? = some (.cells (cs.toList.take i ++ vs).toArray t fr)
  | [], w, i, cs, h, hl => by
    have : cs.toList.take i = cs.toList := List.take_of_length_le (by simp at hl ⊢; omega)
    rw [this, List.append_nil]; exact h
  | v :: vs, w, i, cs, h, hl => by
    have hi : i < cs.size := by rw [List.length_cons] at hl; omega
    have := setN_heap g t fr vs (w.setCell ⟨g, i, none⟩ v) (i + 1) (cs.setIfInBounds i v) (Go.Joins.block_setCell h v) (by rw [Array.size_setIfInBounds]; rw [List.length_cons] at hl; omega)
    rw [setN, this]
    have e : (cs.setIfInBounds i v).toList.take (i + 1) = cs.toList.take i ++ [v] := by
      rw [Array.toList_setIfInBounds, List.take_add_one, List.getElem?_set_self (by simpa using hi), List.take_set_of_le (Nat.le_refl _)]
      rfl
    rw [e, List.append_assoc]; rfl
theorem setN_below {B : Nat} {w0 : World} (g : Nat) (h : B ≤ g) : ∀ (vs : List Value) (w : World) (i : Nat), Below B w0 w → Below B w0 (setN w g i vs)
  | [], w, i, b => b
  | v :: vs, w, i, b => setN_below g h vs _ _ (b.setCell h v)
theorem size_slot : (Try.prog.info? 48).map (·.size) = some 4 := by kernel_rfl
set_option maxRecDepth 20000 in
set_option maxHeartbeats 800000 in
theorem takeSlot_no (id : Int) (s : ByteArray) (w : World) (hk : tsOk id s = false) :
    Calls Try.prog 24 #[.int .i64 id, .string s] w fun e w' => e = .returned (.tuple #[.agg #[.int .i64 0, .int .i64 0, .int .i64 0, .int .u64 0], .int .i64 2]) ∧ Below w.heap.size w w' := by
  have H := Lib.hid hk
  unfold tsOk tsC tsE tsN at H
  have N5 : Hid (0 ≤ takeN (takeR (takeR s 3) 1) 8) := Lib.hid (by unfold takeN; split <;> omega)
  clear hk
  go_enter Try.func24, Try.ntmps24
  go_wp2_with fail
  refine (num_any _ s _ _ (heap_alloc2_new _ _ _) (by decide)).mono ?_
  rintro e w1 ⟨rfl, f1, b1⟩
  have F1 := Lib.hid f1
  have R1 : Hid (w1.heap[w.heap.size]? = some (.cells #[.int .i64 0, .int .i64 0, .int .i64 0, .int .u64 0] 48)) := Lib.hid (by rw [b1.block _ (Nat.lt_succ_self _)]; exact heap_alloc2_old _ _ _)
  have B1 : Hid (Below w.heap.size w w1) := Lib.hid (((Below.refl _ _).alloc (Nat.le_refl _) _).alloc (by simp) _ |>.trans (b1.mono (by simp)))
  clear f1 b1
  go_wp2_with fail
  refine (num_any _ _ _ _ F1.out (by decide)).mono ?_
  rintro e w2 ⟨rfl, f2, b2⟩
  have F2 := Lib.hid f2
  have R2 : Hid (w2.heap[w.heap.size]? = some (.cells #[.int .i64 0, .int .i64 0, .int .i64 0, .int .u64 0] 48)) := Lib.hid (by rw [b2.block _ (Nat.lt_succ_self _)]; exact R1.out)
  have B2 : Hid (Below w.heap.size w w2) := Lib.hid (B1.out.trans (b2.mono (by simp)))
  clear f2 b2 F1 R1 B1
  go_wp2_with fail
  refine (wide_any _ _ _ _ F2.out).mono ?_
  rintro e w3 ⟨rfl, f3, b3⟩
  have R3 : Hid (w3.heap[w.heap.size]? = some (.cells #[.int .i64 0, .int .i64 0, .int .i64 0, .int .u64 0] 48)) := Lib.hid (by rw [b3.block _ (Nat.lt_succ_self _)]; exact R2.out)
  have B3 : Hid (Below w.heap.size w w3) := Lib.hid (B2.out.trans (b3.mono (by simp)))
  clear f3 b3 F2 R2 B2
  generalize takeN s 3 = n1 at *
  generalize takeN (takeR s 3) 1 = n2 at *
  generalize takeN (takeR (takeR s 3) 1) 8 = n3 at *
  go_wp2_with fail
  refine (wrote_slot _ _ _ _ _ _ N5.out).mono ?_
  rw [H.out]
  rintro e w4 ⟨rfl, b4⟩
  have hlt : w.heap.size < w3.heap.size := (Array.getElem?_eq_some_iff.1 R3.out).1
  have R4 : w4.heap[w.heap.size]? = some (.cells #[.int .i64 0, .int .i64 0, .int .i64 0, .int .u64 0] 48) := by
    rw [b4.block _ (by simp; omega), Below.heap_alloc w3 _ _ hlt]; exact R3.out
  have B4 : Hid (Below w.heap.size w w4) := Lib.hid ((B3.out.alloc (Nat.le_of_lt hlt) _).trans (b4.mono (by simp; omega)))
  have c0 : w4.cell? ⟨w.heap.size, 0, none⟩ = some (.int .i64 0) := by rw [Go.Joins.cell_of_block R4]; rfl
  have c1 : w4.cell? ⟨w.heap.size, 1, none⟩ = some (.int .i64 0) := by rw [Go.Joins.cell_of_block R4]; rfl
  have c2 : w4.cell? ⟨w.heap.size, 2, none⟩ = some (.int .i64 0) := by rw [Go.Joins.cell_of_block R4]; rfl
  have c3 : w4.cell? ⟨w.heap.size, 3, none⟩ = some (.int .u64 0) := by rw [Go.Joins.cell_of_block R4]; rfl
  have f0 := Go.Joins.unfrozen_of_block R4 0
  have f1 := Go.Joins.unfrozen_of_block R4 1
  have f2 := Go.Joins.unfrozen_of_block R4 2
  have f3 := Go.Joins.unfrozen_of_block R4 3
  have R5 := Lib.hid (setN_heap w.heap.size 48 (0, 0) [.int .i64 0, .int .i64 0, .int .i64 0, .int .u64 0] w4 0 _ R4 rfl)
  have B5 := Lib.hid (setN_below w.heap.size (Nat.le_refl _) [.int .i64 0, .int .i64 0, .int .i64 0, .int .u64 0] w4 0 B4.out)
  clear b4 R3 B3 R4 B4
  go_wp2_with fail
  exact bodyPost_ret (v := .tuple #[.agg #[.int .i64 0, .int .i64 0, .int .i64 0, .int .u64 0], .int .i64 2]) (results_row_tmp Try.results24 _ _ w.heap.size 48 _ (0, 0) _ _ rfl rfl R5.out Try.underlying48 rfl size_slot) rfl ⟨rfl, B5.out⟩
set_option maxRecDepth 20000 in
set_option maxHeartbeats 800000 in
theorem takeSlot_yes (id : Int) (s : ByteArray) (w : World) (hk : tsOk id s = true) :
    Calls Try.prog 24 #[.int .i64 id, .string s] w fun e w' => e = .returned (.tuple #[.agg #[.int .i64 id, .int .i64 (tsC s), .int .i64 (tsE s), .int .u64 (tsN s)], .int .i64 0]) ∧ Below w.heap.size w w' := by
  have H := Lib.hid hk
  unfold tsOk tsC tsE tsN at H
  show Calls _ _ _ _ fun e w' => e = .returned (.tuple #[.agg #[.int .i64 id, .int .i64 (takeN s 3), .int .i64 (takeN (takeR s 3) 1), .int .u64 (takeN (takeR (takeR s 3) 1) 8)], .int .i64 0]) ∧ Below w.heap.size w w'
  have N5 : Hid (0 ≤ takeN (takeR (takeR s 3) 1) 8) := Lib.hid (by unfold takeN; split <;> omega)
  clear hk
  generalize h1 : takeN s 3 = n1 at *
  generalize h2 : takeN (takeR s 3) 1 = n2 at *
  generalize h3 : takeN (takeR (takeR s 3) 1) 8 = n3 at *
  have E1 := Lib.hid h1
  have E2 := Lib.hid h2
  have E3 := Lib.hid h3
  clear h1 h2 h3
  go_enter Try.func24, Try.ntmps24
  go_wp2_with fail
  refine (num_any _ s _ _ (heap_alloc2_new _ _ _) (by decide)).mono ?_
  rw [E1.out]
  rintro e w1 ⟨rfl, f1, b1⟩
  have F1 := Lib.hid f1
  have R1 : Hid (w1.heap[w.heap.size]? = some (.cells #[.int .i64 0, .int .i64 0, .int .i64 0, .int .u64 0] 48)) := Lib.hid (by rw [b1.block _ (Nat.lt_succ_self _)]; exact heap_alloc2_old _ _ _)
  have B1 : Hid (Below w.heap.size w w1) := Lib.hid (((Below.refl _ _).alloc (Nat.le_refl _) _).alloc (by simp) _ |>.trans (b1.mono (by simp)))
  clear f1 b1
  go_wp2_with fail
  refine (num_any _ _ _ _ F1.out (by decide)).mono ?_
  rw [E2.out]
  rintro e w2 ⟨rfl, f2, b2⟩
  have F2 := Lib.hid f2
  have R2 : Hid (w2.heap[w.heap.size]? = some (.cells #[.int .i64 0, .int .i64 0, .int .i64 0, .int .u64 0] 48)) := Lib.hid (by rw [b2.block _ (Nat.lt_succ_self _)]; exact R1.out)
  have B2 : Hid (Below w.heap.size w w2) := Lib.hid (B1.out.trans (b2.mono (by simp)))
  clear f2 b2 F1 R1 B1
  go_wp2_with fail
  refine (wide_any _ _ _ _ F2.out).mono ?_
  rw [E3.out]
  rintro e w3 ⟨rfl, f3, b3⟩
  have R3 : Hid (w3.heap[w.heap.size]? = some (.cells #[.int .i64 0, .int .i64 0, .int .i64 0, .int .u64 0] 48)) := Lib.hid (by rw [b3.block _ (Nat.lt_succ_self _)]; exact R2.out)
  have B3 : Hid (Below w.heap.size w w3) := Lib.hid (B2.out.trans (b3.mono (by simp)))
  clear f3 b3 F2 R2 B2
  go_wp2_with fail
  refine (wrote_slot _ _ _ _ _ _ N5.out).mono ?_
  rw [H.out]
  rintro e w4 ⟨rfl, b4⟩
  have hlt : w.heap.size < w3.heap.size := (Array.getElem?_eq_some_iff.1 R3.out).1
  have X4 : Hid (w4.heap[w3.heap.size]? = some (.cells #[.int .i64 id, .int .i64 n1, .int .i64 n2, .int .u64 n3] 48)) := Lib.hid (by rw [b4.block _ (by simp)]; exact heap_alloc_new _ _)
  have d0 : w4.cell? ⟨w3.heap.size, 0, none⟩ = some (.int .i64 id) := by rw [Go.Joins.cell_of_block X4.out]; rfl
  have d1 : w4.cell? ⟨w3.heap.size, 1, none⟩ = some (.int .i64 n1) := by rw [Go.Joins.cell_of_block X4.out]; rfl
  have d2 : w4.cell? ⟨w3.heap.size, 2, none⟩ = some (.int .i64 n2) := by rw [Go.Joins.cell_of_block X4.out]; rfl
  have d3 : w4.cell? ⟨w3.heap.size, 3, none⟩ = some (.int .u64 n3) := by rw [Go.Joins.cell_of_block X4.out]; rfl
  have R4 : w4.heap[w.heap.size]? = some (.cells #[.int .i64 0, .int .i64 0, .int .i64 0, .int .u64 0] 48) := by
    rw [b4.block _ (by simp; omega), Below.heap_alloc w3 _ _ hlt]; exact R3.out
  have B4 : Hid (Below w.heap.size w w4) := Lib.hid ((B3.out.alloc (Nat.le_of_lt hlt) _).trans (b4.mono (by simp; omega)))
  have c0 : w4.cell? ⟨w.heap.size, 0, none⟩ = some (.int .i64 0) := by rw [Go.Joins.cell_of_block R4]; rfl
  have c1 : w4.cell? ⟨w.heap.size, 1, none⟩ = some (.int .i64 0) := by rw [Go.Joins.cell_of_block R4]; rfl
  have c2 : w4.cell? ⟨w.heap.size, 2, none⟩ = some (.int .i64 0) := by rw [Go.Joins.cell_of_block R4]; rfl
  have c3 : w4.cell? ⟨w.heap.size, 3, none⟩ = some (.int .u64 0) := by rw [Go.Joins.cell_of_block R4]; rfl
  have f0 := Go.Joins.unfrozen_of_block R4 0
  have f1 := Go.Joins.unfrozen_of_block R4 1
  have f2 := Go.Joins.unfrozen_of_block R4 2
  have f3 := Go.Joins.unfrozen_of_block R4 3
  have R5 := Lib.hid (setN_heap w.heap.size 48 (0, 0) [.int .i64 id, .int .i64 n1, .int .i64 n2, .int .u64 n3] w4 0 _ R4 rfl)
  have B5 := Lib.hid (setN_below w.heap.size (Nat.le_refl _) [.int .i64 id, .int .i64 n1, .int .i64 n2, .int .u64 n3] w4 0 B4.out)
  clear b4 R3 B3 R4 B4 X4
  go_wp2_with fail
  exact bodyPost_ret (v := .tuple #[.agg #[.int .i64 id, .int .i64 n1, .int .i64 n2, .int .u64 n3], .int .i64 0]) (results_row_tmp Try.results24 _ _ w.heap.size 48 _ (0, 0) _ _ rfl rfl R5.out Try.underlying48 rfl size_slot) rfl ⟨rfl, B5.out⟩
/-- What TakeSlot answers. -/
def tsV (id : Int) (s : ByteArray) : Value := if tsOk id s = true then .agg #[.int .i64 id, .int .i64 (tsC s), .int .i64 (tsE s), .int .u64 (tsN s)] else .agg #[.int .i64 0, .int .i64 0, .int .i64 0, .int .u64 0]
theorem takeSlot_any (id : Int) (s : ByteArray) (w : World) :
    Calls Try.prog 24 #[.int .i64 id, .string s] w fun e w' => e = .returned (.tuple #[tsV id s, .int .i64 (okE (tsOk id s) 2)]) ∧ Below w.heap.size w w' := by
  cases h : tsOk id s
  · have := takeSlot_no id s w h
    simpa [tsV, okE, h] using this
  · have := takeSlot_yes id s w h
    simpa [tsV, okE, h] using this
end Go.Proofs.Ytlbnakoaflladaa
