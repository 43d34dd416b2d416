/-
  Package node: Decode, of a leaf's bytes.
-/
import Derived.Test.YtkdcoipbdkmieaaNodeL
import Derived.Test.YtkdcoipbdkmieaaNodeE
namespace Go.Proofs.Ytkdcoipbdkmieaa
open Go.RowKit
set_option linter.unusedVariables false
set_option linter.unusedSimpArgs false
/-- A node and no error are handed back. -/
def DecBack (lo : Nat) (n : Nod) (e : Ending) (w' : World) : Prop := ∃ ak av ac ck cv cc, e = .returned (.tuple #[nodV n ak av ac ck cv cc, .int .i64 0]) ∧ NodR w' n ak av ac ck cv cc ∧ (∀ x, ak = some x → lo ≤ x.block) ∧ (∀ x, av = some x → lo ≤ x.block) ∧ ∀ x, ac = some x → lo ≤ x.block
set_option maxHeartbeats 3200000 in
set_option maxRecDepth 20000 in
theorem decode_leaf (s : ByteArray) (K : List Int) (V : List ByteArray) (lf mid : Nat → ByteArray) (w : World) (h1 : 1 ≤ s.size) (h2 : s.size ≤ 240) (hb : s.extract 0 1 = ⟨#[1]⟩) (hr : s.extract 1 s.size = lf 0) (hV : V.length = K.length) (hok : NodOk ⟨true, K, V, []⟩) (hend : lf K.length = ⟨#[]⟩)
    (hst : ∀ j (h1 : j < K.length) (h2 : j < V.length), lf j ≠ ⟨#[]⟩ ∧ takeN (lf j) 8 = K[j] ∧ takeR (lf j) 8 = mid j ∧ takeE (lf j) 8 = 0 ∧ ttS (mid j) = V[j] ∧ ttR (mid j) = lf (j + 1) ∧ ttE (mid j) = 0 ∧ (mid j).size ≤ 9223372036854775807 ∧ (lf (j + 1)).size < (lf j).size)
    (hs : ∀ i (h : i + 1 < K.length), K[i] < K[i + 1]) (hv : ∀ v ∈ V, v.size ≤ 40) (h0 : 0 < K.length) (hz : sizeN ⟨true, K, V, []⟩ ≤ 240) :
    Calls Try.prog 32 #[.string s] w fun e w' => DecBack w.heap.size ⟨true, K, V, []⟩ e w' ∧ Below w.heap.size w w' := by
  have hw : wholeB ⟨true, K, V, []⟩ = true := (wholeB_leaf rfl).2 ⟨hV, rfl⟩
  have RG := Lib.hid (fun ak av ac ck cv cc w' (h : NodR w' ⟨true, K, V, []⟩ ak av ac ck cv cc) => right_yes ⟨true, K, V, []⟩ ak av ac ck cv cc w' h hw hs hv (fun c hc => by cases hc) rfl h0 hz)
  have z1 : (w.alloc (.cells #[.bool false, .slice none 0 0, .slice none 0 0, .slice none 0 0] 26)).heap.size = w.heap.size + 1 := by simp
  have z2 : ((w.alloc (.cells #[.bool false, .slice none 0 0, .slice none 0 0, .slice none 0 0] 26)).alloc (.cells #[.string (lf 0), .bool false] 91)).heap.size = w.heap.size + 1 + 1 := by simp
  obtain ⟨w3, hw3⟩ : ∃ w3, ((w.alloc (.cells #[.bool false, .slice none 0 0, .slice none 0 0, .slice none 0 0] 26)).alloc (.cells #[.string (lf 0), .bool false] 91)).alloc (.cells #[.bool false, .slice none 0 0, .slice none 0 0, .slice none 0 0] 26) = w3 := ⟨_, rfl⟩
  have RD0 : RDn w3 (w.heap.size + 1) (lf 0) := by
    rw [← hw3]
    unfold RDn
    rw [heap_alloc_old _ _ (by rw [z2]; omega), ← z1]
    exact heap_alloc_new _ _
  have X0 : w3.heap[w.heap.size]? = some (.cells #[.bool false, .slice none 0 0, .slice none 0 0, .slice none 0 0] 26) := by
    rw [← hw3, heap_alloc_old _ _ (by rw [z2]; omega), heap_alloc_old _ _ (by rw [z1]; omega)]
    exact heap_alloc_new _ _
  have X2 : w3.heap[w.heap.size + 1 + 1]? = some (.cells #[.bool false, .slice none 0 0, .slice none 0 0, .slice none 0 0] 26) := by
    rw [← hw3, ← z2]
    exact heap_alloc_new _ _
  have z3 : w3.heap.size = w.heap.size + 3 := by rw [← hw3]; simp
  have B3 : Below w.heap.size w w3 := by
    rw [← hw3]
    exact (((Below.refl _ _).alloc (Nat.le_refl _) _).alloc (by simp) _).alloc (by rw [z2]; omega) _
  have LEAF := Lib.hid (rleaf_ok (w.heap.size + 1) K V lf mid w3 RD0 hV hok hend hst)
  have H0 := Lib.hid X0
  have H2 := Lib.hid X2
  have HB3 := Lib.hid B3
  have HW3 := Lib.hid hw3
  have HZ3 := Lib.hid z3
  have l1 : ¬ s = ByteArray.empty := fun e => by rw [e] at h1; exact absurd h1 (by decide)
  have l2 : ¬ (240 : Int) < (s.size : Int) := by omega
  have l3 : (1 : Int) ≤ (s.size : Int) := by omega
  clear hV hok hend hst hs hv h0 hz hw z1 z2 RD0 X0 X2 z3 B3 hw3 h1 h2
  generalize lf 0 = r0 at *
  go_enter Try.func32, Try.ntmps32
  go_wp2_with fail
  rw [HW3.out]
  refine LEAF.out.mono ?_
  rintro e w1 ⟨⟨ak, av, ac, ck, cv, cc, rfl, hR, q1, q2, q3⟩, hrd, hfr⟩
  have HR := Lib.hid hR
  have Q1 := Lib.hid q1
  have Q2 := Lib.hid q2
  have Q3 := Lib.hid q3
  have z3 := HZ3.out
  have X1 : w1.heap[w.heap.size]? = some (.cells #[.bool false, .slice none 0 0, .slice none 0 0, .slice none 0 0] 26) := (hfr.block _ (by omega) (by show ¬ w.heap.size = w.heap.size + 1; omega)).trans H0.out
  have XB : w1.heap[w.heap.size + 1 + 1]? = some (.cells #[.bool false, .slice none 0 0, .slice none 0 0, .slice none 0 0] 26) := (hfr.block _ (by omega) (by show ¬ w.heap.size + 1 + 1 = w.heap.size + 1; omega)).trans H2.out
  have HB1 : Hid (Below w.heap.size w w1) := Lib.hid (HB3.out.trans (hfr.below (fun i hi => by have hi : i = w.heap.size + 1 := hi; omega) (by omega)))
  have y0 : w1.cell? ⟨w.heap.size + 1 + 1, 0, none⟩ = some (.bool false) := by rw [Go.Joins.cell_of_block XB]; rfl
  have y1 : w1.cell? ⟨w.heap.size + 1 + 1, 1, none⟩ = some (.slice none 0 0) := by rw [Go.Joins.cell_of_block XB]; rfl
  have y2 : w1.cell? ⟨w.heap.size + 1 + 1, 2, none⟩ = some (.slice none 0 0) := by rw [Go.Joins.cell_of_block XB]; rfl
  have y3 : w1.cell? ⟨w.heap.size + 1 + 1, 3, none⟩ = some (.slice none 0 0) := by rw [Go.Joins.cell_of_block XB]; rfl
  have f0 := Go.Joins.unfrozen_of_block XB 0
  have f1 := Go.Joins.unfrozen_of_block XB 1
  have f2 := Go.Joins.unfrozen_of_block XB 2
  have f3 := Go.Joins.unfrozen_of_block XB 3
  have XW : ((((w1.setCell ⟨w.heap.size + 1 + 1, 0, none⟩ (.bool true)).setCell ⟨w.heap.size + 1 + 1, 1, none⟩ (.slice ak K.length ck)).setCell ⟨w.heap.size + 1 + 1, 2, none⟩ (.slice av V.length cv)).setCell ⟨w.heap.size + 1 + 1, 3, none⟩ (.slice ac 0 cc)).heap[w.heap.size + 1 + 1]? = some (.cells #[.bool true, .slice ak K.length ck, .slice av V.length cv, .slice ac 0 cc] 26) := by
    rw [heap_setCell_same _ _ 3 _ _ _ (heap_setCell_same _ _ 2 _ _ _ (heap_setCell_same _ _ 1 _ _ _ (heap_setCell_same _ _ 0 _ _ _ XB)))]
    rfl
  have keep : ∀ q, ¬ q = w.heap.size + 1 + 1 → ((((w1.setCell ⟨w.heap.size + 1 + 1, 0, none⟩ (.bool true)).setCell ⟨w.heap.size + 1 + 1, 1, none⟩ (.slice ak K.length ck)).setCell ⟨w.heap.size + 1 + 1, 2, none⟩ (.slice av V.length cv)).setCell ⟨w.heap.size + 1 + 1, 3, none⟩ (.slice ac 0 cc)).heap[q]? = w1.heap[q]? := fun q hne => by
    have hne' : ∀ i, q ≠ (⟨w.heap.size + 1 + 1, i, none⟩ : Addr).block := fun i => hne
    rw [Below.heap_setCell _ _ _ _ (hne' 3), Below.heap_setCell _ _ _ _ (hne' 2), Below.heap_setCell _ _ _ _ (hne' 1), Below.heap_setCell _ _ _ _ (hne' 0)]
  have RW := (keep (w.heap.size + 1) (by omega)).trans hrd
  have ZW := (keep w.heap.size (by omega)).trans X1
  have cR : ((((w1.setCell ⟨w.heap.size + 1 + 1, 0, none⟩ (.bool true)).setCell ⟨w.heap.size + 1 + 1, 1, none⟩ (.slice ak K.length ck)).setCell ⟨w.heap.size + 1 + 1, 2, none⟩ (.slice av V.length cv)).setCell ⟨w.heap.size + 1 + 1, 3, none⟩ (.slice ac 0 cc)).cell? ⟨w.heap.size + 1, 1, none⟩ = some (.bool false) := by rw [Go.Joins.cell_of_block RW]; rfl
  have c0 : ((((w1.setCell ⟨w.heap.size + 1 + 1, 0, none⟩ (.bool true)).setCell ⟨w.heap.size + 1 + 1, 1, none⟩ (.slice ak K.length ck)).setCell ⟨w.heap.size + 1 + 1, 2, none⟩ (.slice av V.length cv)).setCell ⟨w.heap.size + 1 + 1, 3, none⟩ (.slice ac 0 cc)).cell? ⟨w.heap.size + 1 + 1, 0, none⟩ = some (.bool true) := by rw [Go.Joins.cell_of_block XW]; rfl
  have c1 : ((((w1.setCell ⟨w.heap.size + 1 + 1, 0, none⟩ (.bool true)).setCell ⟨w.heap.size + 1 + 1, 1, none⟩ (.slice ak K.length ck)).setCell ⟨w.heap.size + 1 + 1, 2, none⟩ (.slice av V.length cv)).setCell ⟨w.heap.size + 1 + 1, 3, none⟩ (.slice ac 0 cc)).cell? ⟨w.heap.size + 1 + 1, 1, none⟩ = some (.slice ak K.length ck) := by rw [Go.Joins.cell_of_block XW]; rfl
  have c2 : ((((w1.setCell ⟨w.heap.size + 1 + 1, 0, none⟩ (.bool true)).setCell ⟨w.heap.size + 1 + 1, 1, none⟩ (.slice ak K.length ck)).setCell ⟨w.heap.size + 1 + 1, 2, none⟩ (.slice av V.length cv)).setCell ⟨w.heap.size + 1 + 1, 3, none⟩ (.slice ac 0 cc)).cell? ⟨w.heap.size + 1 + 1, 2, none⟩ = some (.slice av V.length cv) := by rw [Go.Joins.cell_of_block XW]; rfl
  have c3 : ((((w1.setCell ⟨w.heap.size + 1 + 1, 0, none⟩ (.bool true)).setCell ⟨w.heap.size + 1 + 1, 1, none⟩ (.slice ak K.length ck)).setCell ⟨w.heap.size + 1 + 1, 2, none⟩ (.slice av V.length cv)).setCell ⟨w.heap.size + 1 + 1, 3, none⟩ (.slice ac 0 cc)).cell? ⟨w.heap.size + 1 + 1, 3, none⟩ = some (.slice ac 0 cc) := by rw [Go.Joins.cell_of_block XW]; rfl
  have HRW := Lib.hid (hR.set4 (w.heap.size + 1 + 1) (.bool true) (.slice ak K.length ck) (.slice av V.length cv) (.slice ac 0 cc) (fun x hx => by have := q1 x hx; omega) (fun x hx => by have := q2 x hx; omega) (fun x hx => by have := q3 x hx; omega))
  have XWH := Lib.hid XW
  have ZWH := Lib.hid ZW
  have BW : Hid (Below w.heap.size w ((((w1.setCell ⟨w.heap.size + 1 + 1, 0, none⟩ (.bool true)).setCell ⟨w.heap.size + 1 + 1, 1, none⟩ (.slice ak K.length ck)).setCell ⟨w.heap.size + 1 + 1, 2, none⟩ (.slice av V.length cv)).setCell ⟨w.heap.size + 1 + 1, 3, none⟩ (.slice ac 0 cc))) := Lib.hid (((((HB1.out).setCell (by show _ ≤ w.heap.size + 1 + 1; omega) _).setCell (by show _ ≤ w.heap.size + 1 + 1; omega) _).setCell (by show _ ≤ w.heap.size + 1 + 1; omega) _).setCell (by show _ ≤ w.heap.size + 1 + 1; omega) _)
  clear hR q1 q2 q3 hrd hfr X1 XB XW keep RW ZW z3
  simp only [nodV, List.length_nil]
  go_wp2_with fail
  refine (RG.out _ _ _ _ _ _ _ HRW.out).mono ?_
  rintro e w2 ⟨rfl, b2⟩
  have XB2 := kept XWH.out b2
  have XZ2 := kept ZWH.out b2
  have d0 : w2.cell? ⟨w.heap.size + 1 + 1, 0, none⟩ = some (.bool true) := by rw [Go.Joins.cell_of_block XB2]; rfl
  have d1 : w2.cell? ⟨w.heap.size + 1 + 1, 1, none⟩ = some (.slice ak K.length ck) := by rw [Go.Joins.cell_of_block XB2]; rfl
  have d2 : w2.cell? ⟨w.heap.size + 1 + 1, 2, none⟩ = some (.slice av V.length cv) := by rw [Go.Joins.cell_of_block XB2]; rfl
  have d3 : w2.cell? ⟨w.heap.size + 1 + 1, 3, none⟩ = some (.slice ac 0 cc) := by rw [Go.Joins.cell_of_block XB2]; rfl
  have g0 : w2.cell? ⟨w.heap.size, 0, none⟩ = some (.bool false) := by rw [Go.Joins.cell_of_block XZ2]; rfl
  have g1 : w2.cell? ⟨w.heap.size, 1, none⟩ = some (.slice none 0 0) := by rw [Go.Joins.cell_of_block XZ2]; rfl
  have g2 : w2.cell? ⟨w.heap.size, 2, none⟩ = some (.slice none 0 0) := by rw [Go.Joins.cell_of_block XZ2]; rfl
  have g3 : w2.cell? ⟨w.heap.size, 3, none⟩ = some (.slice none 0 0) := by rw [Go.Joins.cell_of_block XZ2]; rfl
  have k0 := Go.Joins.unfrozen_of_block XZ2 0
  have k1 := Go.Joins.unfrozen_of_block XZ2 1
  have k2 := Go.Joins.unfrozen_of_block XZ2 2
  have k3 := Go.Joins.unfrozen_of_block XZ2 3
  have XR : ((((w2.setCell ⟨w.heap.size, 0, none⟩ (.bool true)).setCell ⟨w.heap.size, 1, none⟩ (.slice ak K.length ck)).setCell ⟨w.heap.size, 2, none⟩ (.slice av V.length cv)).setCell ⟨w.heap.size, 3, none⟩ (.slice ac 0 cc)).heap[w.heap.size]? = some (.cells #[.bool true, .slice ak K.length ck, .slice av V.length cv, .slice ac 0 cc] 26) := by
    rw [heap_setCell_same _ _ 3 _ _ _ (heap_setCell_same _ _ 2 _ _ _ (heap_setCell_same _ _ 1 _ _ _ (heap_setCell_same _ _ 0 _ _ _ XZ2)))]
    rfl
  have Z0 : Hid (((((w2.setCell ⟨w.heap.size, 0, none⟩ (.bool true)).setCell ⟨w.heap.size, 1, none⟩ (.slice ak K.length ck)).setCell ⟨w.heap.size, 2, none⟩ (.slice av V.length cv)).setCell ⟨w.heap.size, 3, none⟩ (.slice ac 0 cc)).cell? ⟨w.heap.size, 0, none⟩ = some (.bool true)) := Lib.hid (by rw [Go.Joins.cell_of_block XR]; rfl)
  have Z1 : Hid (((((w2.setCell ⟨w.heap.size, 0, none⟩ (.bool true)).setCell ⟨w.heap.size, 1, none⟩ (.slice ak K.length ck)).setCell ⟨w.heap.size, 2, none⟩ (.slice av V.length cv)).setCell ⟨w.heap.size, 3, none⟩ (.slice ac 0 cc)).cell? ⟨w.heap.size, 1, none⟩ = some (.slice ak K.length ck)) := Lib.hid (by rw [Go.Joins.cell_of_block XR]; rfl)
  have Z2 : Hid (((((w2.setCell ⟨w.heap.size, 0, none⟩ (.bool true)).setCell ⟨w.heap.size, 1, none⟩ (.slice ak K.length ck)).setCell ⟨w.heap.size, 2, none⟩ (.slice av V.length cv)).setCell ⟨w.heap.size, 3, none⟩ (.slice ac 0 cc)).cell? ⟨w.heap.size, 2, none⟩ = some (.slice av V.length cv)) := Lib.hid (by rw [Go.Joins.cell_of_block XR]; rfl)
  have Z3 : Hid (((((w2.setCell ⟨w.heap.size, 0, none⟩ (.bool true)).setCell ⟨w.heap.size, 1, none⟩ (.slice ak K.length ck)).setCell ⟨w.heap.size, 2, none⟩ (.slice av V.length cv)).setCell ⟨w.heap.size, 3, none⟩ (.slice ac 0 cc)).cell? ⟨w.heap.size, 3, none⟩ = some (.slice ac 0 cc)) := Lib.hid (by rw [Go.Joins.cell_of_block XR]; rfl)
  have FIN : Hid (DecBack w.heap.size ⟨true, K, V, []⟩ (.returned (.tuple #[.agg #[.bool true, .slice ak K.length ck, .slice av V.length cv, .slice ac 0 cc], .int .i64 0])) ((((w2.setCell ⟨w.heap.size, 0, none⟩ (.bool true)).setCell ⟨w.heap.size, 1, none⟩ (.slice ak K.length ck)).setCell ⟨w.heap.size, 2, none⟩ (.slice av V.length cv)).setCell ⟨w.heap.size, 3, none⟩ (.slice ac 0 cc)) ∧ Below w.heap.size w ((((w2.setCell ⟨w.heap.size, 0, none⟩ (.bool true)).setCell ⟨w.heap.size, 1, none⟩ (.slice ak K.length ck)).setCell ⟨w.heap.size, 2, none⟩ (.slice av V.length cv)).setCell ⟨w.heap.size, 3, none⟩ (.slice ac 0 cc))) := by
    have z3 := HZ3.out
    refine Lib.hid ⟨⟨ak, av, ac, ck, cv, cc, rfl, (HRW.out.below b2).set4 _ _ _ _ _ (fun x hx => by have := Q1.out x hx; omega) (fun x hx => by have := Q2.out x hx; omega) (fun x hx => by have := Q3.out x hx; omega), fun x hx => by have := Q1.out x hx; omega, fun x hx => by have := Q2.out x hx; omega, fun x hx => by have := Q3.out x hx; omega⟩, ?_⟩
    exact ((((chain BW.out b2).setCell (Nat.le_refl _) _).setCell (Nat.le_refl _) _).setCell (Nat.le_refl _) _).setCell (Nat.le_refl _) _
  clear XB2 XZ2 XR b2 cR c0 c1 c2 c3 y0 y1 y2 y3 f0 f1 f2 f3
  go_wp2_with fail
  exact bodyPost_ret (v := .tuple #[.agg #[.bool true, .slice ak K.length ck, .slice av V.length cv, .slice ac 0 cc], .int .i64 0]) (by simp [results, Try.results32, go_sem, Z0.out, Z1.out, Z2.out, Z3.out]) rfl FIN.out
end Go.Proofs.Ytkdcoipbdkmieaa
