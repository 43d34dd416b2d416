/-
  Package shadow: a head: its text, what a text says, whether it counts; what is in a set of pages.
-/
import Derived.Test.YtbjmbndeaobbeaaDoorSetI
import Derived.Test.YtbjmbndeaobbeaaDoorBits
import Derived.Test.YtbjmbndeaobbeaaDoorTakePut
import Derived.Test.YtbjmbndeaobbeaaDoorKept
import Derived.Test.YtbjmbndeaobbeaaDoorFlowKit
namespace Go.Proofs.YtbjmbndeaobbeaaDoor
open Go.RowKit
set_option linter.unusedVariables false
set_option linter.unusedSimpArgs false
/-- A head. -/
structure HdS where
  gen : Int
  root : Int
  used : ByteArray
def hdV (h : HdS) : Value := .agg #[.int .i64 h.gen, .int .i64 h.root, .string h.used]
def headT (h : HdS) : ByteArray := Str (putL h.gen 6) ++ Str (putL h.root 2) ++ h.used
theorem put_short (n : Int) (k : Int) (h1 : 1 ≤ k) (h8 : k ≤ 8) : (Str (putL n k)).size ≤ 8 := by
  unfold putL
  split
  · rw [Str_size, M.be_length]; omega
  · exact Nat.zero_le _
set_option maxHeartbeats 1600000 in
set_option maxRecDepth 20000 in
theorem place_is (g : Int) (w : World) (h0 : 0 ≤ g) (h1 : g ≤ 9223372036854775807) :
    Calls Tryd.prog 47 #[.int .i64 g] w fun e w' => e = .returned (.int .i64 (g % 2)) ∧ w = w' := by
  have ht : g.tmod 2 = g % 2 := Int.tmod_eq_emod_of_nonneg h0
  have hw : IntKind.i64.wrap (g % 2) = g % 2 := by rw [IntKind.wrap_i64]; omega
  obtain ⟨v, hv⟩ : ∃ v, g % 2 = v := ⟨_, rfl⟩
  rw [hv] at ht hw ⊢
  go_enter Tryd.func47, Tryd.ntmps47
  go_wp2_with fail
  go_ret
  exact ⟨rfl, rfl⟩
theorem zero_unit (w : World) : (zeroValue 59).run Tryd.prog w = .ok unitV w := by kernel_rfl
set_option maxHeartbeats 1600000 in
set_option maxRecDepth 20000 in
theorem pages_has (m : Nat) (L : List Int) (n : Int) (w : World) (h : SetI w m L) :
    Calls Tryd.prog 28 #[.map (some m), .int .i64 n] w fun e w' => e = .returned (.bool (decide (n ∈ L))) ∧ Below w.heap.size w w' := by
  have hl := lookupS (P := Tryd.prog) Tryd.underlying56 Tryd.underlying3 h n (zero_unit w)
  obtain ⟨b, hb⟩ : ∃ b, decide (n ∈ L) = b := ⟨_, rfl⟩
  rw [hb] at hl ⊢
  unfold unitV at hl
  clear h hb
  go_enter Tryd.func28, Tryd.ntmps28
  go_wp2_with fail
  go_ret
  exact ⟨rfl, by repeat' (first | exact Below.refl _ _ | refine Below.setCell ?_ (by simp) _ | refine Below.alloc ?_ (by simp) _)⟩
set_option maxHeartbeats 1600000 in
set_option maxRecDepth 20000 in
theorem text_is (h : HdS) (w : World) (g0 : 0 ≤ h.gen) (g1 : h.gen ≤ 9223372036854775807) (r0 : 0 ≤ h.root) (r1 : h.root ≤ 9223372036854775807) (hu : h.used.size ≤ 1000) :
    Calls Tryd.prog 48 #[hdV h] w fun e w' => e = .returned (.string (headT h)) ∧ Below w.heap.size w w' := by
  obtain ⟨g, r, u⟩ := h
  unfold hdV headT
  dsimp only at *
  have P1 := Lib.hid (fun w => put_any g 6 w g0)
  have P2 := Lib.hid (fun w => put_any r 2 w r0)
  have e1 : IntKind.u64.wrap g = g := by rw [IntKind.wrap_u64]; omega
  have e2 : IntKind.u64.wrap r = r := by rw [IntKind.wrap_u64]; omega
  have s1 := put_short g 6 (by decide) (by decide)
  have s2 := put_short r 2 (by decide) (by decide)
  generalize Str (putL g 6) = x at *
  generalize Str (putL r 2) = y at *
  generalize putE g 6 = q1 at *
  generalize putE r 2 = q2 at *
  have a1 : (9223372036854775807 < x.size + y.size) = False := by simp; omega
  have a2 : (9223372036854775807 < x.size + y.size + u.size) = False := by simp; omega
  have b0 : Below w.heap.size w (w.alloc (.cells #[.int .i64 g, .int .i64 r, .string u] 54)) := below_made _ _
  have X0 : (w.alloc (.cells #[.int .i64 g, .int .i64 r, .string u] 54)).heap[w.heap.size]? = some (.cells #[.int .i64 g, .int .i64 r, .string u] 54) := heap_alloc_new _ _
  have B0 := Lib.hid b0
  have XH := Lib.hid X0
  clear b0 X0 g0 r0 g1 r1
  go_enter Tryd.func48, Tryd.ntmps48
  go_wp2_with fail
  refine (P1.out _).mono ?_
  rintro e w1 ⟨rfl, b1⟩
  have X1 := kept XH.out b1
  have XH1 := Lib.hid X1
  have y1 : w1.cell? ⟨w.heap.size, 1, none⟩ = some (.int .i64 r) := by rw [Go.Joins.cell_of_block X1]; rfl
  have B1 := Lib.hid (chain B0.out b1)
  clear X1 b1 XH B0 P1
  go_wp2_with fail
  refine (P2.out _).mono ?_
  rintro e w2 ⟨rfl, b2⟩
  have X2 := kept XH1.out b2
  have y2 : w2.cell? ⟨w.heap.size, 2, none⟩ = some (.string u) := by rw [Go.Joins.cell_of_block X2]; rfl
  have B2 := Lib.hid (chain B1.out b2)
  clear X2 b2 XH1 B1 P2 y1
  go_wp2_with fail
  go_ret
  exact ⟨rfl, B2.out⟩
def parseH (s : ByteArray) : HdS := ⟨takeN s 6, takeN (takeR s 6) 2, takeR (takeR s 6) 2⟩
theorem take_rng (s : ByteArray) (k : Int) (h1 : 1 ≤ k) (h6 : k ≤ 6) : 0 ≤ takeN s k ∧ takeN s k ≤ 281474976710655 := by
  have h := pt_room s h1 (by omega)
  have h2 := putOk_lt h.2 h.1
  have h3 : 256 ^ k.toNat ≤ 256 ^ 6 := Nat.pow_le_pow_right (by decide) (by omega)
  have e : (256 : Nat) ^ 6 = 281474976710656 := by decide
  rw [e] at h3
  omega
set_option maxHeartbeats 1600000 in
set_option maxRecDepth 20000 in
theorem parse_is (s : ByteArray) (w : World) :
    Calls Tryd.prog 59 #[.string s] w fun e w' => e = .returned (hdV (parseH s)) ∧ Below w.heap.size w w' := by
  unfold parseH hdV
  dsimp only
  have T1 := Lib.hid (fun w => take_any s 6 w)
  have T2 := Lib.hid (fun w => take_any (takeR s 6) 2 w)
  have g1 := take_rng s 6 (by decide) (by decide)
  have g2 := take_rng (takeR s 6) 2 (by decide) (by decide)
  generalize takeN (takeR s 6) 2 = r at *
  generalize takeR (takeR s 6) 2 = u at *
  generalize takeE (takeR s 6) 2 = q2 at *
  generalize takeN s 6 = g at *
  generalize takeR s 6 = x at *
  generalize takeE s 6 = q1 at *
  have e1 : IntKind.i64.wrap g = g := by rw [IntKind.wrap_i64]; omega
  have e2 : IntKind.i64.wrap r = r := by rw [IntKind.wrap_i64]; omega
  have X0 : (w.alloc (.cells #[.int .i64 0, .int .i64 0, .string ⟨#[]⟩] 54)).heap[w.heap.size]? = some (.cells #[.int .i64 0, .int .i64 0, .string ⟨#[]⟩] 54) := heap_alloc_new _ _
  have B0 := Lib.hid (below_made w (.cells #[.int .i64 0, .int .i64 0, .string ⟨#[]⟩] 54))
  have XH := Lib.hid X0
  clear X0 g1 g2
  go_enter Tryd.func59, Tryd.ntmps59
  go_wp2_with fail
  refine (T1.out _).mono ?_
  rintro e w1 ⟨rfl, b1⟩
  have XH1 := Lib.hid (kept XH.out b1)
  have B1 := Lib.hid (chain B0.out b1)
  clear b1 XH B0 T1
  go_wp2_with fail
  refine (T2.out _).mono ?_
  rintro e w2 ⟨rfl, b2⟩
  have X2 := kept XH1.out b2
  have B2 := Lib.hid (chain B1.out b2)
  have y0 : w2.cell? ⟨w.heap.size, 0, none⟩ = some (.int .i64 0) := by rw [Go.Joins.cell_of_block X2]; rfl
  have y1 : w2.cell? ⟨w.heap.size, 1, none⟩ = some (.int .i64 0) := by rw [Go.Joins.cell_of_block X2]; rfl
  have y2 : w2.cell? ⟨w.heap.size, 2, none⟩ = some (.string ⟨#[]⟩) := by rw [Go.Joins.cell_of_block X2]; rfl
  have f0 := Go.Joins.unfrozen_of_block X2 0
  have f1 := Go.Joins.unfrozen_of_block X2 1
  have f2 := Go.Joins.unfrozen_of_block X2 2
  have XR : (((w2.setCell ⟨w.heap.size, 0, none⟩ (.int .i64 g)).setCell ⟨w.heap.size, 1, none⟩ (.int .i64 r)).setCell ⟨w.heap.size, 2, none⟩ (.string u)).heap[w.heap.size]? = some (.cells #[.int .i64 g, .int .i64 r, .string u] 54) := by
    rw [heap_setCell_same _ _ 2 _ _ _ (heap_setCell_same _ _ 1 _ _ _ (heap_setCell_same _ _ 0 _ _ _ X2))]
    rfl
  have Z0 : Hid ((((w2.setCell ⟨w.heap.size, 0, none⟩ (.int .i64 g)).setCell ⟨w.heap.size, 1, none⟩ (.int .i64 r)).setCell ⟨w.heap.size, 2, none⟩ (.string u)).cell? ⟨w.heap.size, 0, none⟩ = some (.int .i64 g)) := Lib.hid (by rw [Go.Joins.cell_of_block XR]; rfl)
  have Z1 : Hid ((((w2.setCell ⟨w.heap.size, 0, none⟩ (.int .i64 g)).setCell ⟨w.heap.size, 1, none⟩ (.int .i64 r)).setCell ⟨w.heap.size, 2, none⟩ (.string u)).cell? ⟨w.heap.size, 1, none⟩ = some (.int .i64 r)) := Lib.hid (by rw [Go.Joins.cell_of_block XR]; rfl)
  have Z2 : Hid ((((w2.setCell ⟨w.heap.size, 0, none⟩ (.int .i64 g)).setCell ⟨w.heap.size, 1, none⟩ (.int .i64 r)).setCell ⟨w.heap.size, 2, none⟩ (.string u)).cell? ⟨w.heap.size, 2, none⟩ = some (.string u)) := Lib.hid (by rw [Go.Joins.cell_of_block XR]; rfl)
  have FIN : Hid (Below w.heap.size w (((w2.setCell ⟨w.heap.size, 0, none⟩ (.int .i64 g)).setCell ⟨w.heap.size, 1, none⟩ (.int .i64 r)).setCell ⟨w.heap.size, 2, none⟩ (.string u))) := Lib.hid (((B2.out.setCell (Nat.le_refl _) _).setCell (Nat.le_refl _) _).setCell (Nat.le_refl _) _)
  clear X2 XR b2 XH1 B1 T2
  go_wp2_with fail
  exact bodyPost_ret (v := .agg #[.int .i64 g, .int .i64 r, .string u]) (by simp [results, Tryd.results59, go_sem, Z0.out, Z1.out, Z2.out]) rfl ⟨rfl, FIN.out⟩
/-- Does a head count that stands in sector n, of so many? -/
def strayB (h : HdS) (size : Int) (i : Nat) : Bool := hasB h.used (i : Int) && (decide ((i : Int) < 2) || decide (size ≤ (i : Int)))
def countsB (h : HdS) (n size : Int) : Bool :=
  decide (1 ≤ h.gen) && decide (h.gen % 2 = n) && ((List.range 640).all fun i => !strayB h size i) && (decide (h.root = 0) || hasB h.used h.root)
end Go.Proofs.YtbjmbndeaobbeaaDoor
