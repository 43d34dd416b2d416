/-
  Package node: Decode, of any bytes.
-/
import Derived.Test.YtkdcoipbdkmieaaNodeRl
import Derived.Test.YtkdcoipbdkmieaaNodePl
import Derived.Test.YtkdcoipbdkmieaaNodeDe
namespace Go.Proofs.Ytkdcoipbdkmieaa
open Go.RowKit
set_option linter.unusedVariables false
set_option linter.unusedSimpArgs false
/-- A node is handed back, or an error. -/
def DecRes (lo : Nat) (o : Option Nod) (e : Ending) (w' : World) : Prop :=
  match o with
  | some n => DecBack lo n e w'
  | none => e = .returned (.tuple #[.agg #[.bool false, .slice none 0 0, .slice none 0 0, .slice none 0 0], .int .i64 2])
theorem first_not (x : ByteArray) (b : UInt8) (h : x ≠ ⟨#[b]⟩) : (x.toList == [b]) = false := by
  rw [beq_eq_false_iff_ne]
  intro e
  apply h
  apply eq_of_data
  rw [← toList_data, e]
theorem ext_size (s : ByteArray) (h : 1 ≤ s.size) : (s.extract 1 s.size).size + 1 = s.size := by rw [ByteArray.size_extract]; omega
set_option maxHeartbeats 800000 in
theorem decode_size (s : ByteArray) (w : World) (h : s.size = 0 ∨ 240 < s.size) :
    Calls Try.prog 32 #[.string s] w fun e w' => DecRes w.heap.size none e w' ∧ Below w.heap.size w w' := by
  have X0 : (w.alloc (.cells #[.bool false, .slice none 0 0, .slice none 0 0, .slice none 0 0] 26)).heap[w.heap.size]? = some (.cells #[.bool false, .slice none 0 0, .slice none 0 0, .slice none 0 0] 26) := heap_alloc_new _ _
  have B0 := Lib.hid ((Below.refl w.heap.size w).alloc (Nat.le_refl _) (.cells #[.bool false, .slice none 0 0, .slice none 0 0, .slice none 0 0] 26))
  rcases h with h | h
  · have e0 : s = ⟨#[]⟩ := empty_of_size h
    subst e0
    go_enter Try.func32, Try.ntmps32
    have FIN : Hid (DecRes w.heap.size none (.returned (.tuple #[.agg #[.bool false, .slice none 0 0, .slice none 0 0, .slice none 0 0], .int .i64 2])) (w.alloc (.cells #[.bool false, .slice none 0 0, .slice none 0 0, .slice none 0 0] 26)) ∧ Below w.heap.size w (w.alloc (.cells #[.bool false, .slice none 0 0, .slice none 0 0, .slice none 0 0] 26))) := Lib.hid ⟨rfl, B0.out⟩
    clear X0
    go_wp2_with fail
    exact bodyPost_ret (v := .tuple #[.agg #[.bool false, .slice none 0 0, .slice none 0 0, .slice none 0 0], .int .i64 2]) (by simp [results, Try.results32, go_sem]) rfl FIN.out
  · have l1 : ¬ s = ByteArray.empty := fun e => by rw [e] at h; exact absurd h (by decide)
    have l2 : (240 : Int) < (s.size : Int) := by omega
    go_enter Try.func32, Try.ntmps32
    have FIN : Hid (DecRes w.heap.size none (.returned (.tuple #[.agg #[.bool false, .slice none 0 0, .slice none 0 0, .slice none 0 0], .int .i64 2])) (w.alloc (.cells #[.bool false, .slice none 0 0, .slice none 0 0, .slice none 0 0] 26)) ∧ Below w.heap.size w (w.alloc (.cells #[.bool false, .slice none 0 0, .slice none 0 0, .slice none 0 0] 26))) := Lib.hid ⟨rfl, B0.out⟩
    clear X0
    go_wp2_with fail
    exact bodyPost_ret (v := .tuple #[.agg #[.bool false, .slice none 0 0, .slice none 0 0, .slice none 0 0], .int .i64 2]) (by simp [results, Try.results32, go_sem]) rfl FIN.out
set_option maxHeartbeats 3200000 in
set_option maxRecDepth 20000 in
theorem decode_leafB (s r0 : ByteArray) (w : World) (h1 : 1 ≤ s.size) (h2 : s.size ≤ 240) (hb : s.extract 0 1 = ⟨#[1]⟩) (hr : s.extract 1 s.size = r0) (n : Nod) (bad v : Bool) (res : Option Nod) (hres : res = if (!bad && v) = true then some n else none) (hv : Hid (rightN n = v))
    (RDR : ∀ w3, RDb w3 (w.heap.size + 1) r0 false → Calls Try.prog 52 #[.pointer (some ⟨w.heap.size + 1, 0, none⟩)] w3 fun e w' => NodBack w3.heap.size n e w' ∧ RDb w' (w.heap.size + 1) ⟨#[]⟩ bad ∧ Frm (fun k => k = w.heap.size + 1) w3 w') :
    Calls Try.prog 32 #[.string s] w fun e w' => DecRes w.heap.size res e w' ∧ Below w.heap.size w w' := by
  have RG := Lib.hid (fun ak av ac ck cv cc w' (h : NodR w' n ak av ac ck cv cc) => right_any n ak av ac ck cv cc w' h v hv)
  have z1 : (w.alloc (.cells #[.bool false, .slice none 0 0, .slice none 0 0, .slice none 0 0] 26)).heap.size = w.heap.size + 1 := by simp
  have z2 : ((w.alloc (.cells #[.bool false, .slice none 0 0, .slice none 0 0, .slice none 0 0] 26)).alloc (.cells #[.string r0, .bool false] 91)).heap.size = w.heap.size + 1 + 1 := by simp
  obtain ⟨w3, hw3⟩ : ∃ w3, ((w.alloc (.cells #[.bool false, .slice none 0 0, .slice none 0 0, .slice none 0 0] 26)).alloc (.cells #[.string r0, .bool false] 91)).alloc (.cells #[.bool false, .slice none 0 0, .slice none 0 0, .slice none 0 0] 26) = w3 := ⟨_, rfl⟩
  have RD0 : RDb w3 (w.heap.size + 1) r0 false := by
    rw [← hw3]
    unfold RDb
    rw [heap_alloc_old _ _ (by rw [z2]; omega), ← z1]
    exact heap_alloc_new _ _
  have X0 : w3.heap[w.heap.size]? = some (.cells #[.bool false, .slice none 0 0, .slice none 0 0, .slice none 0 0] 26) := by
    rw [← hw3, heap_alloc_old _ _ (by rw [z2]; omega), heap_alloc_old _ _ (by rw [z1]; omega)]
    exact heap_alloc_new _ _
  have X2 : w3.heap[w.heap.size + 1 + 1]? = some (.cells #[.bool false, .slice none 0 0, .slice none 0 0, .slice none 0 0] 26) := by
    rw [← hw3, ← z2]
    exact heap_alloc_new _ _
  have z3 : w3.heap.size = w.heap.size + 3 := by rw [← hw3]; simp
  have B3 : Below w.heap.size w w3 := by
    rw [← hw3]
    exact (((Below.refl _ _).alloc (Nat.le_refl _) _).alloc (by simp) _).alloc (by rw [z2]; omega) _
  have LEAF := Lib.hid (RDR w3 RD0)
  have H0 := Lib.hid X0
  have H2 := Lib.hid X2
  have HB3 := Lib.hid B3
  have HW3 := Lib.hid hw3
  have HZ3 := Lib.hid z3
  have HRES := Lib.hid hres
  have l1 : ¬ s = ByteArray.empty := fun e => by rw [e] at h1; exact absurd h1 (by decide)
  have l2 : ¬ (240 : Int) < (s.size : Int) := by omega
  have l3 : (1 : Int) ≤ (s.size : Int) := by omega
  clear z1 z2 RD0 X0 X2 z3 B3 hw3 h1 h2 RDR hres hv
  go_enter Try.func32, Try.ntmps32
  go_wp2_with fail
  rw [HW3.out]
  refine LEAF.out.mono ?_
  rintro e w1 ⟨⟨ak, av, ac, ck, cv, cc, rfl, hR, q1, q2, q3⟩, hrd, hfr⟩
  have HR := Lib.hid hR
  have Q1 := Lib.hid q1
  have Q2 := Lib.hid q2
  have Q3 := Lib.hid q3
  have z3 := HZ3.out
  have X1 : w1.heap[w.heap.size]? = some (.cells #[.bool false, .slice none 0 0, .slice none 0 0, .slice none 0 0] 26) := (hfr.block _ (by omega) (by show ¬ w.heap.size = w.heap.size + 1; omega)).trans H0.out
  have XB : w1.heap[w.heap.size + 1 + 1]? = some (.cells #[.bool false, .slice none 0 0, .slice none 0 0, .slice none 0 0] 26) := (hfr.block _ (by omega) (by show ¬ w.heap.size + 1 + 1 = w.heap.size + 1; omega)).trans H2.out
  have HB1 : Hid (Below w.heap.size w w1) := Lib.hid (HB3.out.trans (hfr.below (fun i hi => by have hi : i = w.heap.size + 1 := hi; omega) (by omega)))
  have y0 : w1.cell? ⟨w.heap.size + 1 + 1, 0, none⟩ = some (.bool false) := by rw [Go.Joins.cell_of_block XB]; rfl
  have y1 : w1.cell? ⟨w.heap.size + 1 + 1, 1, none⟩ = some (.slice none 0 0) := by rw [Go.Joins.cell_of_block XB]; rfl
  have y2 : w1.cell? ⟨w.heap.size + 1 + 1, 2, none⟩ = some (.slice none 0 0) := by rw [Go.Joins.cell_of_block XB]; rfl
  have y3 : w1.cell? ⟨w.heap.size + 1 + 1, 3, none⟩ = some (.slice none 0 0) := by rw [Go.Joins.cell_of_block XB]; rfl
  have f0 := Go.Joins.unfrozen_of_block XB 0
  have f1 := Go.Joins.unfrozen_of_block XB 1
  have f2 := Go.Joins.unfrozen_of_block XB 2
  have f3 := Go.Joins.unfrozen_of_block XB 3
  have XW : ((((w1.setCell ⟨w.heap.size + 1 + 1, 0, none⟩ (.bool n.leaf)).setCell ⟨w.heap.size + 1 + 1, 1, none⟩ (.slice ak n.K.length ck)).setCell ⟨w.heap.size + 1 + 1, 2, none⟩ (.slice av n.V.length cv)).setCell ⟨w.heap.size + 1 + 1, 3, none⟩ (.slice ac n.C.length cc)).heap[w.heap.size + 1 + 1]? = some (.cells #[.bool n.leaf, .slice ak n.K.length ck, .slice av n.V.length cv, .slice ac n.C.length cc] 26) := by
    rw [heap_setCell_same _ _ 3 _ _ _ (heap_setCell_same _ _ 2 _ _ _ (heap_setCell_same _ _ 1 _ _ _ (heap_setCell_same _ _ 0 _ _ _ XB)))]
    rfl
  have keep : ∀ q, ¬ q = w.heap.size + 1 + 1 → ((((w1.setCell ⟨w.heap.size + 1 + 1, 0, none⟩ (.bool n.leaf)).setCell ⟨w.heap.size + 1 + 1, 1, none⟩ (.slice ak n.K.length ck)).setCell ⟨w.heap.size + 1 + 1, 2, none⟩ (.slice av n.V.length cv)).setCell ⟨w.heap.size + 1 + 1, 3, none⟩ (.slice ac n.C.length cc)).heap[q]? = w1.heap[q]? := fun q hne => by
    have hne' : ∀ i, q ≠ (⟨w.heap.size + 1 + 1, i, none⟩ : Addr).block := fun i => hne
    rw [Below.heap_setCell _ _ _ _ (hne' 3), Below.heap_setCell _ _ _ _ (hne' 2), Below.heap_setCell _ _ _ _ (hne' 1), Below.heap_setCell _ _ _ _ (hne' 0)]
  have RW := (keep (w.heap.size + 1) (by omega)).trans hrd
  have ZW := (keep w.heap.size (by omega)).trans X1
  have HRW := Lib.hid (hR.set4 (w.heap.size + 1 + 1) (.bool n.leaf) (.slice ak n.K.length ck) (.slice av n.V.length cv) (.slice ac n.C.length cc) (fun x hx => by have := q1 x hx; omega) (fun x hx => by have := q2 x hx; omega) (fun x hx => by have := q3 x hx; omega))
  have BW : Hid (Below w.heap.size w ((((w1.setCell ⟨w.heap.size + 1 + 1, 0, none⟩ (.bool n.leaf)).setCell ⟨w.heap.size + 1 + 1, 1, none⟩ (.slice ak n.K.length ck)).setCell ⟨w.heap.size + 1 + 1, 2, none⟩ (.slice av n.V.length cv)).setCell ⟨w.heap.size + 1 + 1, 3, none⟩ (.slice ac n.C.length cc))) := Lib.hid (((((HB1.out).setCell (by show _ ≤ w.heap.size + 1 + 1; omega) _).setCell (by show _ ≤ w.heap.size + 1 + 1; omega) _).setCell (by show _ ≤ w.heap.size + 1 + 1; omega) _).setCell (by show _ ≤ w.heap.size + 1 + 1; omega) _)
  simp only [nodV]
  clear hR q1 q2 q3 hrd hfr X1 XB keep
  go_upto_region 11 with fail
  obtain ⟨wb, hwb⟩ : ∃ wb, ((((w1.setCell ⟨w.heap.size + 1 + 1, 0, none⟩ (.bool n.leaf)).setCell ⟨w.heap.size + 1 + 1, 1, none⟩ (.slice ak n.K.length ck)).setCell ⟨w.heap.size + 1 + 1, 2, none⟩ (.slice av n.V.length cv)).setCell ⟨w.heap.size + 1 + 1, 3, none⟩ (.slice ac n.C.length cc)) = wb := ⟨_, rfl⟩
  rw [hwb] at XW RW ZW HRW BW ⊢
  have XWH := Lib.hid XW
  have ZWH := Lib.hid ZW
  have cR : wb.cell? ⟨w.heap.size + 1, 1, none⟩ = some (.bool bad) := by rw [Go.Joins.cell_of_block RW]; rfl
  have c0 : wb.cell? ⟨w.heap.size + 1 + 1, 0, none⟩ = some (.bool n.leaf) := by rw [Go.Joins.cell_of_block XW]; rfl
  have c1 : wb.cell? ⟨w.heap.size + 1 + 1, 1, none⟩ = some (.slice ak n.K.length ck) := by rw [Go.Joins.cell_of_block XW]; rfl
  have c2 : wb.cell? ⟨w.heap.size + 1 + 1, 2, none⟩ = some (.slice av n.V.length cv) := by rw [Go.Joins.cell_of_block XW]; rfl
  have c3 : wb.cell? ⟨w.heap.size + 1 + 1, 3, none⟩ = some (.slice ac n.C.length cc) := by rw [Go.Joins.cell_of_block XW]; rfl
  clear XW RW z3 hwb y0 y1 y2 y3 f0 f1 f2 f3
  have hres := HRES.out
  cases bad
  · go_wp2_with fail
    refine (RG.out _ _ _ _ _ _ _ HRW.out).mono ?_
    rintro e w2 ⟨rfl, b2⟩
    have XB2 := kept XWH.out b2
    have XZ2 := kept ZWH.out b2
    have hbw := Lib.hid (chain BW.out b2)
    have HRW2 := Lib.hid (HRW.out.below b2)
    have d0 : w2.cell? ⟨w.heap.size + 1 + 1, 0, none⟩ = some (.bool n.leaf) := by rw [Go.Joins.cell_of_block XB2]; rfl
    have d1 : w2.cell? ⟨w.heap.size + 1 + 1, 1, none⟩ = some (.slice ak n.K.length ck) := by rw [Go.Joins.cell_of_block XB2]; rfl
    have d2 : w2.cell? ⟨w.heap.size + 1 + 1, 2, none⟩ = some (.slice av n.V.length cv) := by rw [Go.Joins.cell_of_block XB2]; rfl
    have d3 : w2.cell? ⟨w.heap.size + 1 + 1, 3, none⟩ = some (.slice ac n.C.length cc) := by rw [Go.Joins.cell_of_block XB2]; rfl
    clear b2 cR c0 c1 c2 c3 XB2 HRW BW
    cases v
    · rw [if_neg (by decide)] at hres
      subst hres
      have g0 : w2.cell? ⟨w.heap.size, 0, none⟩ = some (.bool false) := by rw [Go.Joins.cell_of_block XZ2]; rfl
      have g1 : w2.cell? ⟨w.heap.size, 1, none⟩ = some (.slice none 0 0) := by rw [Go.Joins.cell_of_block XZ2]; rfl
      have g2 : w2.cell? ⟨w.heap.size, 2, none⟩ = some (.slice none 0 0) := by rw [Go.Joins.cell_of_block XZ2]; rfl
      have g3 : w2.cell? ⟨w.heap.size, 3, none⟩ = some (.slice none 0 0) := by rw [Go.Joins.cell_of_block XZ2]; rfl
      have k0 := Go.Joins.unfrozen_of_block XZ2 0
      have k1 := Go.Joins.unfrozen_of_block XZ2 1
      have k2 := Go.Joins.unfrozen_of_block XZ2 2
      have k3 := Go.Joins.unfrozen_of_block XZ2 3
      have XR : ((((w2.setCell ⟨w.heap.size, 0, none⟩ (.bool false)).setCell ⟨w.heap.size, 1, none⟩ (.slice none 0 0)).setCell ⟨w.heap.size, 2, none⟩ (.slice none 0 0)).setCell ⟨w.heap.size, 3, none⟩ (.slice none 0 0)).heap[w.heap.size]? = some (.cells #[.bool false, .slice none 0 0, .slice none 0 0, .slice none 0 0] 26) := by
        rw [heap_setCell_same _ _ 3 _ _ _ (heap_setCell_same _ _ 2 _ _ _ (heap_setCell_same _ _ 1 _ _ _ (heap_setCell_same _ _ 0 _ _ _ XZ2)))]
        rfl
      have Z0 : Hid (((((w2.setCell ⟨w.heap.size, 0, none⟩ (.bool false)).setCell ⟨w.heap.size, 1, none⟩ (.slice none 0 0)).setCell ⟨w.heap.size, 2, none⟩ (.slice none 0 0)).setCell ⟨w.heap.size, 3, none⟩ (.slice none 0 0)).cell? ⟨w.heap.size, 0, none⟩ = some (.bool false)) := Lib.hid (by rw [Go.Joins.cell_of_block XR]; rfl)
      have Z1 : Hid (((((w2.setCell ⟨w.heap.size, 0, none⟩ (.bool false)).setCell ⟨w.heap.size, 1, none⟩ (.slice none 0 0)).setCell ⟨w.heap.size, 2, none⟩ (.slice none 0 0)).setCell ⟨w.heap.size, 3, none⟩ (.slice none 0 0)).cell? ⟨w.heap.size, 1, none⟩ = some (.slice none 0 0)) := Lib.hid (by rw [Go.Joins.cell_of_block XR]; rfl)
      have Z2 : Hid (((((w2.setCell ⟨w.heap.size, 0, none⟩ (.bool false)).setCell ⟨w.heap.size, 1, none⟩ (.slice none 0 0)).setCell ⟨w.heap.size, 2, none⟩ (.slice none 0 0)).setCell ⟨w.heap.size, 3, none⟩ (.slice none 0 0)).cell? ⟨w.heap.size, 2, none⟩ = some (.slice none 0 0)) := Lib.hid (by rw [Go.Joins.cell_of_block XR]; rfl)
      have Z3 : Hid (((((w2.setCell ⟨w.heap.size, 0, none⟩ (.bool false)).setCell ⟨w.heap.size, 1, none⟩ (.slice none 0 0)).setCell ⟨w.heap.size, 2, none⟩ (.slice none 0 0)).setCell ⟨w.heap.size, 3, none⟩ (.slice none 0 0)).cell? ⟨w.heap.size, 3, none⟩ = some (.slice none 0 0)) := Lib.hid (by rw [Go.Joins.cell_of_block XR]; rfl)
      have FIN : Hid (DecRes w.heap.size none (.returned (.tuple #[.agg #[.bool false, .slice none 0 0, .slice none 0 0, .slice none 0 0], .int .i64 2])) ((((w2.setCell ⟨w.heap.size, 0, none⟩ (.bool false)).setCell ⟨w.heap.size, 1, none⟩ (.slice none 0 0)).setCell ⟨w.heap.size, 2, none⟩ (.slice none 0 0)).setCell ⟨w.heap.size, 3, none⟩ (.slice none 0 0)) ∧ Below w.heap.size w ((((w2.setCell ⟨w.heap.size, 0, none⟩ (.bool false)).setCell ⟨w.heap.size, 1, none⟩ (.slice none 0 0)).setCell ⟨w.heap.size, 2, none⟩ (.slice none 0 0)).setCell ⟨w.heap.size, 3, none⟩ (.slice none 0 0))) := Lib.hid ⟨rfl, ((((hbw.out).setCell (Nat.le_refl _) _).setCell (Nat.le_refl _) _).setCell (Nat.le_refl _) _).setCell (Nat.le_refl _) _⟩
      clear XR
      go_wp2_with fail
      exact bodyPost_ret (v := .tuple #[.agg #[.bool false, .slice none 0 0, .slice none 0 0, .slice none 0 0], .int .i64 2]) (by simp [results, Try.results32, go_sem, Z0.out, Z1.out, Z2.out, Z3.out]) rfl FIN.out
    · rw [if_pos (by decide)] at hres
      subst hres
      have g0 : w2.cell? ⟨w.heap.size, 0, none⟩ = some (.bool false) := by rw [Go.Joins.cell_of_block XZ2]; rfl
      have g1 : w2.cell? ⟨w.heap.size, 1, none⟩ = some (.slice none 0 0) := by rw [Go.Joins.cell_of_block XZ2]; rfl
      have g2 : w2.cell? ⟨w.heap.size, 2, none⟩ = some (.slice none 0 0) := by rw [Go.Joins.cell_of_block XZ2]; rfl
      have g3 : w2.cell? ⟨w.heap.size, 3, none⟩ = some (.slice none 0 0) := by rw [Go.Joins.cell_of_block XZ2]; rfl
      have k0 := Go.Joins.unfrozen_of_block XZ2 0
      have k1 := Go.Joins.unfrozen_of_block XZ2 1
      have k2 := Go.Joins.unfrozen_of_block XZ2 2
      have k3 := Go.Joins.unfrozen_of_block XZ2 3
      have XR : ((((w2.setCell ⟨w.heap.size, 0, none⟩ (.bool n.leaf)).setCell ⟨w.heap.size, 1, none⟩ (.slice ak n.K.length ck)).setCell ⟨w.heap.size, 2, none⟩ (.slice av n.V.length cv)).setCell ⟨w.heap.size, 3, none⟩ (.slice ac n.C.length cc)).heap[w.heap.size]? = some (.cells #[.bool n.leaf, .slice ak n.K.length ck, .slice av n.V.length cv, .slice ac n.C.length cc] 26) := by
        rw [heap_setCell_same _ _ 3 _ _ _ (heap_setCell_same _ _ 2 _ _ _ (heap_setCell_same _ _ 1 _ _ _ (heap_setCell_same _ _ 0 _ _ _ XZ2)))]
        rfl
      have Z0 : Hid (((((w2.setCell ⟨w.heap.size, 0, none⟩ (.bool n.leaf)).setCell ⟨w.heap.size, 1, none⟩ (.slice ak n.K.length ck)).setCell ⟨w.heap.size, 2, none⟩ (.slice av n.V.length cv)).setCell ⟨w.heap.size, 3, none⟩ (.slice ac n.C.length cc)).cell? ⟨w.heap.size, 0, none⟩ = some (.bool n.leaf)) := Lib.hid (by rw [Go.Joins.cell_of_block XR]; rfl)
      have Z1 : Hid (((((w2.setCell ⟨w.heap.size, 0, none⟩ (.bool n.leaf)).setCell ⟨w.heap.size, 1, none⟩ (.slice ak n.K.length ck)).setCell ⟨w.heap.size, 2, none⟩ (.slice av n.V.length cv)).setCell ⟨w.heap.size, 3, none⟩ (.slice ac n.C.length cc)).cell? ⟨w.heap.size, 1, none⟩ = some (.slice ak n.K.length ck)) := Lib.hid (by rw [Go.Joins.cell_of_block XR]; rfl)
      have Z2 : Hid (((((w2.setCell ⟨w.heap.size, 0, none⟩ (.bool n.leaf)).setCell ⟨w.heap.size, 1, none⟩ (.slice ak n.K.length ck)).setCell ⟨w.heap.size, 2, none⟩ (.slice av n.V.length cv)).setCell ⟨w.heap.size, 3, none⟩ (.slice ac n.C.length cc)).cell? ⟨w.heap.size, 2, none⟩ = some (.slice av n.V.length cv)) := Lib.hid (by rw [Go.Joins.cell_of_block XR]; rfl)
      have Z3 : Hid (((((w2.setCell ⟨w.heap.size, 0, none⟩ (.bool n.leaf)).setCell ⟨w.heap.size, 1, none⟩ (.slice ak n.K.length ck)).setCell ⟨w.heap.size, 2, none⟩ (.slice av n.V.length cv)).setCell ⟨w.heap.size, 3, none⟩ (.slice ac n.C.length cc)).cell? ⟨w.heap.size, 3, none⟩ = some (.slice ac n.C.length cc)) := Lib.hid (by rw [Go.Joins.cell_of_block XR]; rfl)
      have FIN : Hid (DecRes w.heap.size (some n) (.returned (.tuple #[.agg #[.bool n.leaf, .slice ak n.K.length ck, .slice av n.V.length cv, .slice ac n.C.length cc], .int .i64 0])) ((((w2.setCell ⟨w.heap.size, 0, none⟩ (.bool n.leaf)).setCell ⟨w.heap.size, 1, none⟩ (.slice ak n.K.length ck)).setCell ⟨w.heap.size, 2, none⟩ (.slice av n.V.length cv)).setCell ⟨w.heap.size, 3, none⟩ (.slice ac n.C.length cc)) ∧ Below w.heap.size w ((((w2.setCell ⟨w.heap.size, 0, none⟩ (.bool n.leaf)).setCell ⟨w.heap.size, 1, none⟩ (.slice ak n.K.length ck)).setCell ⟨w.heap.size, 2, none⟩ (.slice av n.V.length cv)).setCell ⟨w.heap.size, 3, none⟩ (.slice ac n.C.length cc))) := by
        have z3 := HZ3.out
        exact Lib.hid ⟨⟨ak, av, ac, ck, cv, cc, rfl, HRW2.out.set4 _ _ _ _ _ (fun x hx => by have := Q1.out x hx; omega) (fun x hx => by have := Q2.out x hx; omega) (fun x hx => by have := Q3.out x hx; omega), fun x hx => by have := Q1.out x hx; omega, fun x hx => by have := Q2.out x hx; omega, fun x hx => by have := Q3.out x hx; omega⟩, ((((hbw.out).setCell (Nat.le_refl _) _).setCell (Nat.le_refl _) _).setCell (Nat.le_refl _) _).setCell (Nat.le_refl _) _⟩
      clear XR
      go_wp2_with fail
      exact bodyPost_ret (v := .tuple #[.agg #[.bool n.leaf, .slice ak n.K.length ck, .slice av n.V.length cv, .slice ac n.C.length cc], .int .i64 0]) (by simp [results, Try.results32, go_sem, Z0.out, Z1.out, Z2.out, Z3.out]) rfl FIN.out
  · rw [if_neg (by simp)] at hres
    subst hres
    have XZ2 := ZWH.out
    clear c0 c1 c2 c3 RG
    have g0 : wb.cell? ⟨w.heap.size, 0, none⟩ = some (.bool false) := by rw [Go.Joins.cell_of_block XZ2]; rfl
    have g1 : wb.cell? ⟨w.heap.size, 1, none⟩ = some (.slice none 0 0) := by rw [Go.Joins.cell_of_block XZ2]; rfl
    have g2 : wb.cell? ⟨w.heap.size, 2, none⟩ = some (.slice none 0 0) := by rw [Go.Joins.cell_of_block XZ2]; rfl
    have g3 : wb.cell? ⟨w.heap.size, 3, none⟩ = some (.slice none 0 0) := by rw [Go.Joins.cell_of_block XZ2]; rfl
    have k0 := Go.Joins.unfrozen_of_block XZ2 0
    have k1 := Go.Joins.unfrozen_of_block XZ2 1
    have k2 := Go.Joins.unfrozen_of_block XZ2 2
    have k3 := Go.Joins.unfrozen_of_block XZ2 3
    have XR : ((((wb.setCell ⟨w.heap.size, 0, none⟩ (.bool false)).setCell ⟨w.heap.size, 1, none⟩ (.slice none 0 0)).setCell ⟨w.heap.size, 2, none⟩ (.slice none 0 0)).setCell ⟨w.heap.size, 3, none⟩ (.slice none 0 0)).heap[w.heap.size]? = some (.cells #[.bool false, .slice none 0 0, .slice none 0 0, .slice none 0 0] 26) := by
      rw [heap_setCell_same _ _ 3 _ _ _ (heap_setCell_same _ _ 2 _ _ _ (heap_setCell_same _ _ 1 _ _ _ (heap_setCell_same _ _ 0 _ _ _ XZ2)))]
      rfl
    have Z0 : Hid (((((wb.setCell ⟨w.heap.size, 0, none⟩ (.bool false)).setCell ⟨w.heap.size, 1, none⟩ (.slice none 0 0)).setCell ⟨w.heap.size, 2, none⟩ (.slice none 0 0)).setCell ⟨w.heap.size, 3, none⟩ (.slice none 0 0)).cell? ⟨w.heap.size, 0, none⟩ = some (.bool false)) := Lib.hid (by rw [Go.Joins.cell_of_block XR]; rfl)
    have Z1 : Hid (((((wb.setCell ⟨w.heap.size, 0, none⟩ (.bool false)).setCell ⟨w.heap.size, 1, none⟩ (.slice none 0 0)).setCell ⟨w.heap.size, 2, none⟩ (.slice none 0 0)).setCell ⟨w.heap.size, 3, none⟩ (.slice none 0 0)).cell? ⟨w.heap.size, 1, none⟩ = some (.slice none 0 0)) := Lib.hid (by rw [Go.Joins.cell_of_block XR]; rfl)
    have Z2 : Hid (((((wb.setCell ⟨w.heap.size, 0, none⟩ (.bool false)).setCell ⟨w.heap.size, 1, none⟩ (.slice none 0 0)).setCell ⟨w.heap.size, 2, none⟩ (.slice none 0 0)).setCell ⟨w.heap.size, 3, none⟩ (.slice none 0 0)).cell? ⟨w.heap.size, 2, none⟩ = some (.slice none 0 0)) := Lib.hid (by rw [Go.Joins.cell_of_block XR]; rfl)
    have Z3 : Hid (((((wb.setCell ⟨w.heap.size, 0, none⟩ (.bool false)).setCell ⟨w.heap.size, 1, none⟩ (.slice none 0 0)).setCell ⟨w.heap.size, 2, none⟩ (.slice none 0 0)).setCell ⟨w.heap.size, 3, none⟩ (.slice none 0 0)).cell? ⟨w.heap.size, 3, none⟩ = some (.slice none 0 0)) := Lib.hid (by rw [Go.Joins.cell_of_block XR]; rfl)
    have FIN : Hid (DecRes w.heap.size none (.returned (.tuple #[.agg #[.bool false, .slice none 0 0, .slice none 0 0, .slice none 0 0], .int .i64 2])) ((((wb.setCell ⟨w.heap.size, 0, none⟩ (.bool false)).setCell ⟨w.heap.size, 1, none⟩ (.slice none 0 0)).setCell ⟨w.heap.size, 2, none⟩ (.slice none 0 0)).setCell ⟨w.heap.size, 3, none⟩ (.slice none 0 0)) ∧ Below w.heap.size w ((((wb.setCell ⟨w.heap.size, 0, none⟩ (.bool false)).setCell ⟨w.heap.size, 1, none⟩ (.slice none 0 0)).setCell ⟨w.heap.size, 2, none⟩ (.slice none 0 0)).setCell ⟨w.heap.size, 3, none⟩ (.slice none 0 0))) := Lib.hid ⟨rfl, ((((BW.out).setCell (Nat.le_refl _) _).setCell (Nat.le_refl _) _).setCell (Nat.le_refl _) _).setCell (Nat.le_refl _) _⟩
    clear XR
    go_wp2_with fail
    exact bodyPost_ret (v := .tuple #[.agg #[.bool false, .slice none 0 0, .slice none 0 0, .slice none 0 0], .int .i64 2]) (by simp [results, Try.results32, go_sem, Z0.out, Z1.out, Z2.out, Z3.out]) rfl FIN.out
set_option maxHeartbeats 3200000 in
set_option maxRecDepth 20000 in
theorem decode_branchB (s r0 : ByteArray) (w : World) (h1 : 1 ≤ s.size) (h2 : s.size ≤ 240) (hb : s.extract 0 1 = ⟨#[2]⟩) (hr : s.extract 1 s.size = r0) (n : Nod) (bad v : Bool) (res : Option Nod) (hres : res = if (!bad && v) = true then some n else none) (hv : Hid (rightN n = v))
    (RDR : ∀ w3, RDb w3 (w.heap.size + 1) r0 false → Calls Try.prog 53 #[.pointer (some ⟨w.heap.size + 1, 0, none⟩)] w3 fun e w' => NodBack w3.heap.size n e w' ∧ RDb w' (w.heap.size + 1) ⟨#[]⟩ bad ∧ Frm (fun k => k = w.heap.size + 1) w3 w') :
    Calls Try.prog 32 #[.string s] w fun e w' => DecRes w.heap.size res e w' ∧ Below w.heap.size w w' := by
  have RG := Lib.hid (fun ak av ac ck cv cc w' (h : NodR w' n ak av ac ck cv cc) => right_any n ak av ac ck cv cc w' h v hv)
  have z1 : (w.alloc (.cells #[.bool false, .slice none 0 0, .slice none 0 0, .slice none 0 0] 26)).heap.size = w.heap.size + 1 := by simp
  have z2 : ((w.alloc (.cells #[.bool false, .slice none 0 0, .slice none 0 0, .slice none 0 0] 26)).alloc (.cells #[.string r0, .bool false] 91)).heap.size = w.heap.size + 1 + 1 := by simp
  obtain ⟨w3, hw3⟩ : ∃ w3, ((w.alloc (.cells #[.bool false, .slice none 0 0, .slice none 0 0, .slice none 0 0] 26)).alloc (.cells #[.string r0, .bool false] 91)).alloc (.cells #[.bool false, .slice none 0 0, .slice none 0 0, .slice none 0 0] 26) = w3 := ⟨_, rfl⟩
  have RD0 : RDb w3 (w.heap.size + 1) r0 false := by
    rw [← hw3]
    unfold RDb
    rw [heap_alloc_old _ _ (by rw [z2]; omega), ← z1]
    exact heap_alloc_new _ _
  have X0 : w3.heap[w.heap.size]? = some (.cells #[.bool false, .slice none 0 0, .slice none 0 0, .slice none 0 0] 26) := by
    rw [← hw3, heap_alloc_old _ _ (by rw [z2]; omega), heap_alloc_old _ _ (by rw [z1]; omega)]
    exact heap_alloc_new _ _
  have X2 : w3.heap[w.heap.size + 1 + 1]? = some (.cells #[.bool false, .slice none 0 0, .slice none 0 0, .slice none 0 0] 26) := by
    rw [← hw3, ← z2]
    exact heap_alloc_new _ _
  have z3 : w3.heap.size = w.heap.size + 3 := by rw [← hw3]; simp
  have B3 : Below w.heap.size w w3 := by
    rw [← hw3]
    exact (((Below.refl _ _).alloc (Nat.le_refl _) _).alloc (by simp) _).alloc (by rw [z2]; omega) _
  have LEAF := Lib.hid (RDR w3 RD0)
  have H0 := Lib.hid X0
  have H2 := Lib.hid X2
  have HB3 := Lib.hid B3
  have HW3 := Lib.hid hw3
  have HZ3 := Lib.hid z3
  have HRES := Lib.hid hres
  have l1 : ¬ s = ByteArray.empty := fun e => by rw [e] at h1; exact absurd h1 (by decide)
  have l2 : ¬ (240 : Int) < (s.size : Int) := by omega
  have l3 : (1 : Int) ≤ (s.size : Int) := by omega
  clear z1 z2 RD0 X0 X2 z3 B3 hw3 h1 h2 RDR hres hv
  go_enter Try.func32, Try.ntmps32
  go_wp2_with fail
  rw [HW3.out]
  refine LEAF.out.mono ?_
  rintro e w1 ⟨⟨ak, av, ac, ck, cv, cc, rfl, hR, q1, q2, q3⟩, hrd, hfr⟩
  have HR := Lib.hid hR
  have Q1 := Lib.hid q1
  have Q2 := Lib.hid q2
  have Q3 := Lib.hid q3
  have z3 := HZ3.out
  have X1 : w1.heap[w.heap.size]? = some (.cells #[.bool false, .slice none 0 0, .slice none 0 0, .slice none 0 0] 26) := (hfr.block _ (by omega) (by show ¬ w.heap.size = w.heap.size + 1; omega)).trans H0.out
  have XB : w1.heap[w.heap.size + 1 + 1]? = some (.cells #[.bool false, .slice none 0 0, .slice none 0 0, .slice none 0 0] 26) := (hfr.block _ (by omega) (by show ¬ w.heap.size + 1 + 1 = w.heap.size + 1; omega)).trans H2.out
  have HB1 : Hid (Below w.heap.size w w1) := Lib.hid (HB3.out.trans (hfr.below (fun i hi => by have hi : i = w.heap.size + 1 := hi; omega) (by omega)))
  have y0 : w1.cell? ⟨w.heap.size + 1 + 1, 0, none⟩ = some (.bool false) := by rw [Go.Joins.cell_of_block XB]; rfl
  have y1 : w1.cell? ⟨w.heap.size + 1 + 1, 1, none⟩ = some (.slice none 0 0) := by rw [Go.Joins.cell_of_block XB]; rfl
  have y2 : w1.cell? ⟨w.heap.size + 1 + 1, 2, none⟩ = some (.slice none 0 0) := by rw [Go.Joins.cell_of_block XB]; rfl
  have y3 : w1.cell? ⟨w.heap.size + 1 + 1, 3, none⟩ = some (.slice none 0 0) := by rw [Go.Joins.cell_of_block XB]; rfl
  have f0 := Go.Joins.unfrozen_of_block XB 0
  have f1 := Go.Joins.unfrozen_of_block XB 1
  have f2 := Go.Joins.unfrozen_of_block XB 2
  have f3 := Go.Joins.unfrozen_of_block XB 3
  have XW : ((((w1.setCell ⟨w.heap.size + 1 + 1, 0, none⟩ (.bool n.leaf)).setCell ⟨w.heap.size + 1 + 1, 1, none⟩ (.slice ak n.K.length ck)).setCell ⟨w.heap.size + 1 + 1, 2, none⟩ (.slice av n.V.length cv)).setCell ⟨w.heap.size + 1 + 1, 3, none⟩ (.slice ac n.C.length cc)).heap[w.heap.size + 1 + 1]? = some (.cells #[.bool n.leaf, .slice ak n.K.length ck, .slice av n.V.length cv, .slice ac n.C.length cc] 26) := by
    rw [heap_setCell_same _ _ 3 _ _ _ (heap_setCell_same _ _ 2 _ _ _ (heap_setCell_same _ _ 1 _ _ _ (heap_setCell_same _ _ 0 _ _ _ XB)))]
    rfl
  have keep : ∀ q, ¬ q = w.heap.size + 1 + 1 → ((((w1.setCell ⟨w.heap.size + 1 + 1, 0, none⟩ (.bool n.leaf)).setCell ⟨w.heap.size + 1 + 1, 1, none⟩ (.slice ak n.K.length ck)).setCell ⟨w.heap.size + 1 + 1, 2, none⟩ (.slice av n.V.length cv)).setCell ⟨w.heap.size + 1 + 1, 3, none⟩ (.slice ac n.C.length cc)).heap[q]? = w1.heap[q]? := fun q hne => by
    have hne' : ∀ i, q ≠ (⟨w.heap.size + 1 + 1, i, none⟩ : Addr).block := fun i => hne
    rw [Below.heap_setCell _ _ _ _ (hne' 3), Below.heap_setCell _ _ _ _ (hne' 2), Below.heap_setCell _ _ _ _ (hne' 1), Below.heap_setCell _ _ _ _ (hne' 0)]
  have RW := (keep (w.heap.size + 1) (by omega)).trans hrd
  have ZW := (keep w.heap.size (by omega)).trans X1
  have HRW := Lib.hid (hR.set4 (w.heap.size + 1 + 1) (.bool n.leaf) (.slice ak n.K.length ck) (.slice av n.V.length cv) (.slice ac n.C.length cc) (fun x hx => by have := q1 x hx; omega) (fun x hx => by have := q2 x hx; omega) (fun x hx => by have := q3 x hx; omega))
  have BW : Hid (Below w.heap.size w ((((w1.setCell ⟨w.heap.size + 1 + 1, 0, none⟩ (.bool n.leaf)).setCell ⟨w.heap.size + 1 + 1, 1, none⟩ (.slice ak n.K.length ck)).setCell ⟨w.heap.size + 1 + 1, 2, none⟩ (.slice av n.V.length cv)).setCell ⟨w.heap.size + 1 + 1, 3, none⟩ (.slice ac n.C.length cc))) := Lib.hid (((((HB1.out).setCell (by show _ ≤ w.heap.size + 1 + 1; omega) _).setCell (by show _ ≤ w.heap.size + 1 + 1; omega) _).setCell (by show _ ≤ w.heap.size + 1 + 1; omega) _).setCell (by show _ ≤ w.heap.size + 1 + 1; omega) _)
  simp only [nodV]
  clear hR q1 q2 q3 hrd hfr X1 XB keep
  go_upto_region 11 with fail
  obtain ⟨wb, hwb⟩ : ∃ wb, ((((w1.setCell ⟨w.heap.size + 1 + 1, 0, none⟩ (.bool n.leaf)).setCell ⟨w.heap.size + 1 + 1, 1, none⟩ (.slice ak n.K.length ck)).setCell ⟨w.heap.size + 1 + 1, 2, none⟩ (.slice av n.V.length cv)).setCell ⟨w.heap.size + 1 + 1, 3, none⟩ (.slice ac n.C.length cc)) = wb := ⟨_, rfl⟩
  rw [hwb] at XW RW ZW HRW BW ⊢
  have XWH := Lib.hid XW
  have ZWH := Lib.hid ZW
  have cR : wb.cell? ⟨w.heap.size + 1, 1, none⟩ = some (.bool bad) := by rw [Go.Joins.cell_of_block RW]; rfl
  have c0 : wb.cell? ⟨w.heap.size + 1 + 1, 0, none⟩ = some (.bool n.leaf) := by rw [Go.Joins.cell_of_block XW]; rfl
  have c1 : wb.cell? ⟨w.heap.size + 1 + 1, 1, none⟩ = some (.slice ak n.K.length ck) := by rw [Go.Joins.cell_of_block XW]; rfl
  have c2 : wb.cell? ⟨w.heap.size + 1 + 1, 2, none⟩ = some (.slice av n.V.length cv) := by rw [Go.Joins.cell_of_block XW]; rfl
  have c3 : wb.cell? ⟨w.heap.size + 1 + 1, 3, none⟩ = some (.slice ac n.C.length cc) := by rw [Go.Joins.cell_of_block XW]; rfl
  clear XW RW z3 hwb y0 y1 y2 y3 f0 f1 f2 f3
  have hres := HRES.out
  cases bad
  · go_wp2_with fail
    refine (RG.out _ _ _ _ _ _ _ HRW.out).mono ?_
    rintro e w2 ⟨rfl, b2⟩
    have XB2 := kept XWH.out b2
    have XZ2 := kept ZWH.out b2
    have hbw := Lib.hid (chain BW.out b2)
    have HRW2 := Lib.hid (HRW.out.below b2)
    have d0 : w2.cell? ⟨w.heap.size + 1 + 1, 0, none⟩ = some (.bool n.leaf) := by rw [Go.Joins.cell_of_block XB2]; rfl
    have d1 : w2.cell? ⟨w.heap.size + 1 + 1, 1, none⟩ = some (.slice ak n.K.length ck) := by rw [Go.Joins.cell_of_block XB2]; rfl
    have d2 : w2.cell? ⟨w.heap.size + 1 + 1, 2, none⟩ = some (.slice av n.V.length cv) := by rw [Go.Joins.cell_of_block XB2]; rfl
    have d3 : w2.cell? ⟨w.heap.size + 1 + 1, 3, none⟩ = some (.slice ac n.C.length cc) := by rw [Go.Joins.cell_of_block XB2]; rfl
    clear b2 cR c0 c1 c2 c3 XB2 HRW BW
    cases v
    · rw [if_neg (by decide)] at hres
      subst hres
      have g0 : w2.cell? ⟨w.heap.size, 0, none⟩ = some (.bool false) := by rw [Go.Joins.cell_of_block XZ2]; rfl
      have g1 : w2.cell? ⟨w.heap.size, 1, none⟩ = some (.slice none 0 0) := by rw [Go.Joins.cell_of_block XZ2]; rfl
      have g2 : w2.cell? ⟨w.heap.size, 2, none⟩ = some (.slice none 0 0) := by rw [Go.Joins.cell_of_block XZ2]; rfl
      have g3 : w2.cell? ⟨w.heap.size, 3, none⟩ = some (.slice none 0 0) := by rw [Go.Joins.cell_of_block XZ2]; rfl
      have k0 := Go.Joins.unfrozen_of_block XZ2 0
      have k1 := Go.Joins.unfrozen_of_block XZ2 1
      have k2 := Go.Joins.unfrozen_of_block XZ2 2
      have k3 := Go.Joins.unfrozen_of_block XZ2 3
      have XR : ((((w2.setCell ⟨w.heap.size, 0, none⟩ (.bool false)).setCell ⟨w.heap.size, 1, none⟩ (.slice none 0 0)).setCell ⟨w.heap.size, 2, none⟩ (.slice none 0 0)).setCell ⟨w.heap.size, 3, none⟩ (.slice none 0 0)).heap[w.heap.size]? = some (.cells #[.bool false, .slice none 0 0, .slice none 0 0, .slice none 0 0] 26) := by
        rw [heap_setCell_same _ _ 3 _ _ _ (heap_setCell_same _ _ 2 _ _ _ (heap_setCell_same _ _ 1 _ _ _ (heap_setCell_same _ _ 0 _ _ _ XZ2)))]
        rfl
      have Z0 : Hid (((((w2.setCell ⟨w.heap.size, 0, none⟩ (.bool false)).setCell ⟨w.heap.size, 1, none⟩ (.slice none 0 0)).setCell ⟨w.heap.size, 2, none⟩ (.slice none 0 0)).setCell ⟨w.heap.size, 3, none⟩ (.slice none 0 0)).cell? ⟨w.heap.size, 0, none⟩ = some (.bool false)) := Lib.hid (by rw [Go.Joins.cell_of_block XR]; rfl)
      have Z1 : Hid (((((w2.setCell ⟨w.heap.size, 0, none⟩ (.bool false)).setCell ⟨w.heap.size, 1, none⟩ (.slice none 0 0)).setCell ⟨w.heap.size, 2, none⟩ (.slice none 0 0)).setCell ⟨w.heap.size, 3, none⟩ (.slice none 0 0)).cell? ⟨w.heap.size, 1, none⟩ = some (.slice none 0 0)) := Lib.hid (by rw [Go.Joins.cell_of_block XR]; rfl)
      have Z2 : Hid (((((w2.setCell ⟨w.heap.size, 0, none⟩ (.bool false)).setCell ⟨w.heap.size, 1, none⟩ (.slice none 0 0)).setCell ⟨w.heap.size, 2, none⟩ (.slice none 0 0)).setCell ⟨w.heap.size, 3, none⟩ (.slice none 0 0)).cell? ⟨w.heap.size, 2, none⟩ = some (.slice none 0 0)) := Lib.hid (by rw [Go.Joins.cell_of_block XR]; rfl)
      have Z3 : Hid (((((w2.setCell ⟨w.heap.size, 0, none⟩ (.bool false)).setCell ⟨w.heap.size, 1, none⟩ (.slice none 0 0)).setCell ⟨w.heap.size, 2, none⟩ (.slice none 0 0)).setCell ⟨w.heap.size, 3, none⟩ (.slice none 0 0)).cell? ⟨w.heap.size, 3, none⟩ = some (.slice none 0 0)) := Lib.hid (by rw [Go.Joins.cell_of_block XR]; rfl)
      have FIN : Hid (DecRes w.heap.size none (.returned (.tuple #[.agg #[.bool false, .slice none 0 0, .slice none 0 0, .slice none 0 0], .int .i64 2])) ((((w2.setCell ⟨w.heap.size, 0, none⟩ (.bool false)).setCell ⟨w.heap.size, 1, none⟩ (.slice none 0 0)).setCell ⟨w.heap.size, 2, none⟩ (.slice none 0 0)).setCell ⟨w.heap.size, 3, none⟩ (.slice none 0 0)) ∧ Below w.heap.size w ((((w2.setCell ⟨w.heap.size, 0, none⟩ (.bool false)).setCell ⟨w.heap.size, 1, none⟩ (.slice none 0 0)).setCell ⟨w.heap.size, 2, none⟩ (.slice none 0 0)).setCell ⟨w.heap.size, 3, none⟩ (.slice none 0 0))) := Lib.hid ⟨rfl, ((((hbw.out).setCell (Nat.le_refl _) _).setCell (Nat.le_refl _) _).setCell (Nat.le_refl _) _).setCell (Nat.le_refl _) _⟩
      clear XR
      go_wp2_with fail
      exact bodyPost_ret (v := .tuple #[.agg #[.bool false, .slice none 0 0, .slice none 0 0, .slice none 0 0], .int .i64 2]) (by simp [results, Try.results32, go_sem, Z0.out, Z1.out, Z2.out, Z3.out]) rfl FIN.out
    · rw [if_pos (by decide)] at hres
      subst hres
      have g0 : w2.cell? ⟨w.heap.size, 0, none⟩ = some (.bool false) := by rw [Go.Joins.cell_of_block XZ2]; rfl
      have g1 : w2.cell? ⟨w.heap.size, 1, none⟩ = some (.slice none 0 0) := by rw [Go.Joins.cell_of_block XZ2]; rfl
      have g2 : w2.cell? ⟨w.heap.size, 2, none⟩ = some (.slice none 0 0) := by rw [Go.Joins.cell_of_block XZ2]; rfl
      have g3 : w2.cell? ⟨w.heap.size, 3, none⟩ = some (.slice none 0 0) := by rw [Go.Joins.cell_of_block XZ2]; rfl
      have k0 := Go.Joins.unfrozen_of_block XZ2 0
      have k1 := Go.Joins.unfrozen_of_block XZ2 1
      have k2 := Go.Joins.unfrozen_of_block XZ2 2
      have k3 := Go.Joins.unfrozen_of_block XZ2 3
      have XR : ((((w2.setCell ⟨w.heap.size, 0, none⟩ (.bool n.leaf)).setCell ⟨w.heap.size, 1, none⟩ (.slice ak n.K.length ck)).setCell ⟨w.heap.size, 2, none⟩ (.slice av n.V.length cv)).setCell ⟨w.heap.size, 3, none⟩ (.slice ac n.C.length cc)).heap[w.heap.size]? = some (.cells #[.bool n.leaf, .slice ak n.K.length ck, .slice av n.V.length cv, .slice ac n.C.length cc] 26) := by
        rw [heap_setCell_same _ _ 3 _ _ _ (heap_setCell_same _ _ 2 _ _ _ (heap_setCell_same _ _ 1 _ _ _ (heap_setCell_same _ _ 0 _ _ _ XZ2)))]
        rfl
      have Z0 : Hid (((((w2.setCell ⟨w.heap.size, 0, none⟩ (.bool n.leaf)).setCell ⟨w.heap.size, 1, none⟩ (.slice ak n.K.length ck)).setCell ⟨w.heap.size, 2, none⟩ (.slice av n.V.length cv)).setCell ⟨w.heap.size, 3, none⟩ (.slice ac n.C.length cc)).cell? ⟨w.heap.size, 0, none⟩ = some (.bool n.leaf)) := Lib.hid (by rw [Go.Joins.cell_of_block XR]; rfl)
      have Z1 : Hid (((((w2.setCell ⟨w.heap.size, 0, none⟩ (.bool n.leaf)).setCell ⟨w.heap.size, 1, none⟩ (.slice ak n.K.length ck)).setCell ⟨w.heap.size, 2, none⟩ (.slice av n.V.length cv)).setCell ⟨w.heap.size, 3, none⟩ (.slice ac n.C.length cc)).cell? ⟨w.heap.size, 1, none⟩ = some (.slice ak n.K.length ck)) := Lib.hid (by rw [Go.Joins.cell_of_block XR]; rfl)
      have Z2 : Hid (((((w2.setCell ⟨w.heap.size, 0, none⟩ (.bool n.leaf)).setCell ⟨w.heap.size, 1, none⟩ (.slice ak n.K.length ck)).setCell ⟨w.heap.size, 2, none⟩ (.slice av n.V.length cv)).setCell ⟨w.heap.size, 3, none⟩ (.slice ac n.C.length cc)).cell? ⟨w.heap.size, 2, none⟩ = some (.slice av n.V.length cv)) := Lib.hid (by rw [Go.Joins.cell_of_block XR]; rfl)
      have Z3 : Hid (((((w2.setCell ⟨w.heap.size, 0, none⟩ (.bool n.leaf)).setCell ⟨w.heap.size, 1, none⟩ (.slice ak n.K.length ck)).setCell ⟨w.heap.size, 2, none⟩ (.slice av n.V.length cv)).setCell ⟨w.heap.size, 3, none⟩ (.slice ac n.C.length cc)).cell? ⟨w.heap.size, 3, none⟩ = some (.slice ac n.C.length cc)) := Lib.hid (by rw [Go.Joins.cell_of_block XR]; rfl)
      have FIN : Hid (DecRes w.heap.size (some n) (.returned (.tuple #[.agg #[.bool n.leaf, .slice ak n.K.length ck, .slice av n.V.length cv, .slice ac n.C.length cc], .int .i64 0])) ((((w2.setCell ⟨w.heap.size, 0, none⟩ (.bool n.leaf)).setCell ⟨w.heap.size, 1, none⟩ (.slice ak n.K.length ck)).setCell ⟨w.heap.size, 2, none⟩ (.slice av n.V.length cv)).setCell ⟨w.heap.size, 3, none⟩ (.slice ac n.C.length cc)) ∧ Below w.heap.size w ((((w2.setCell ⟨w.heap.size, 0, none⟩ (.bool n.leaf)).setCell ⟨w.heap.size, 1, none⟩ (.slice ak n.K.length ck)).setCell ⟨w.heap.size, 2, none⟩ (.slice av n.V.length cv)).setCell ⟨w.heap.size, 3, none⟩ (.slice ac n.C.length cc))) := by
        have z3 := HZ3.out
        exact Lib.hid ⟨⟨ak, av, ac, ck, cv, cc, rfl, HRW2.out.set4 _ _ _ _ _ (fun x hx => by have := Q1.out x hx; omega) (fun x hx => by have := Q2.out x hx; omega) (fun x hx => by have := Q3.out x hx; omega), fun x hx => by have := Q1.out x hx; omega, fun x hx => by have := Q2.out x hx; omega, fun x hx => by have := Q3.out x hx; omega⟩, ((((hbw.out).setCell (Nat.le_refl _) _).setCell (Nat.le_refl _) _).setCell (Nat.le_refl _) _).setCell (Nat.le_refl _) _⟩
      clear XR
      go_wp2_with fail
      exact bodyPost_ret (v := .tuple #[.agg #[.bool n.leaf, .slice ak n.K.length ck, .slice av n.V.length cv, .slice ac n.C.length cc], .int .i64 0]) (by simp [results, Try.results32, go_sem, Z0.out, Z1.out, Z2.out, Z3.out]) rfl FIN.out
  · rw [if_neg (by simp)] at hres
    subst hres
    have XZ2 := ZWH.out
    clear c0 c1 c2 c3 RG
    have g0 : wb.cell? ⟨w.heap.size, 0, none⟩ = some (.bool false) := by rw [Go.Joins.cell_of_block XZ2]; rfl
    have g1 : wb.cell? ⟨w.heap.size, 1, none⟩ = some (.slice none 0 0) := by rw [Go.Joins.cell_of_block XZ2]; rfl
    have g2 : wb.cell? ⟨w.heap.size, 2, none⟩ = some (.slice none 0 0) := by rw [Go.Joins.cell_of_block XZ2]; rfl
    have g3 : wb.cell? ⟨w.heap.size, 3, none⟩ = some (.slice none 0 0) := by rw [Go.Joins.cell_of_block XZ2]; rfl
    have k0 := Go.Joins.unfrozen_of_block XZ2 0
    have k1 := Go.Joins.unfrozen_of_block XZ2 1
    have k2 := Go.Joins.unfrozen_of_block XZ2 2
    have k3 := Go.Joins.unfrozen_of_block XZ2 3
    have XR : ((((wb.setCell ⟨w.heap.size, 0, none⟩ (.bool false)).setCell ⟨w.heap.size, 1, none⟩ (.slice none 0 0)).setCell ⟨w.heap.size, 2, none⟩ (.slice none 0 0)).setCell ⟨w.heap.size, 3, none⟩ (.slice none 0 0)).heap[w.heap.size]? = some (.cells #[.bool false, .slice none 0 0, .slice none 0 0, .slice none 0 0] 26) := by
      rw [heap_setCell_same _ _ 3 _ _ _ (heap_setCell_same _ _ 2 _ _ _ (heap_setCell_same _ _ 1 _ _ _ (heap_setCell_same _ _ 0 _ _ _ XZ2)))]
      rfl
    have Z0 : Hid (((((wb.setCell ⟨w.heap.size, 0, none⟩ (.bool false)).setCell ⟨w.heap.size, 1, none⟩ (.slice none 0 0)).setCell ⟨w.heap.size, 2, none⟩ (.slice none 0 0)).setCell ⟨w.heap.size, 3, none⟩ (.slice none 0 0)).cell? ⟨w.heap.size, 0, none⟩ = some (.bool false)) := Lib.hid (by rw [Go.Joins.cell_of_block XR]; rfl)
    have Z1 : Hid (((((wb.setCell ⟨w.heap.size, 0, none⟩ (.bool false)).setCell ⟨w.heap.size, 1, none⟩ (.slice none 0 0)).setCell ⟨w.heap.size, 2, none⟩ (.slice none 0 0)).setCell ⟨w.heap.size, 3, none⟩ (.slice none 0 0)).cell? ⟨w.heap.size, 1, none⟩ = some (.slice none 0 0)) := Lib.hid (by rw [Go.Joins.cell_of_block XR]; rfl)
    have Z2 : Hid (((((wb.setCell ⟨w.heap.size, 0, none⟩ (.bool false)).setCell ⟨w.heap.size, 1, none⟩ (.slice none 0 0)).setCell ⟨w.heap.size, 2, none⟩ (.slice none 0 0)).setCell ⟨w.heap.size, 3, none⟩ (.slice none 0 0)).cell? ⟨w.heap.size, 2, none⟩ = some (.slice none 0 0)) := Lib.hid (by rw [Go.Joins.cell_of_block XR]; rfl)
    have Z3 : Hid (((((wb.setCell ⟨w.heap.size, 0, none⟩ (.bool false)).setCell ⟨w.heap.size, 1, none⟩ (.slice none 0 0)).setCell ⟨w.heap.size, 2, none⟩ (.slice none 0 0)).setCell ⟨w.heap.size, 3, none⟩ (.slice none 0 0)).cell? ⟨w.heap.size, 3, none⟩ = some (.slice none 0 0)) := Lib.hid (by rw [Go.Joins.cell_of_block XR]; rfl)
    have FIN : Hid (DecRes w.heap.size none (.returned (.tuple #[.agg #[.bool false, .slice none 0 0, .slice none 0 0, .slice none 0 0], .int .i64 2])) ((((wb.setCell ⟨w.heap.size, 0, none⟩ (.bool false)).setCell ⟨w.heap.size, 1, none⟩ (.slice none 0 0)).setCell ⟨w.heap.size, 2, none⟩ (.slice none 0 0)).setCell ⟨w.heap.size, 3, none⟩ (.slice none 0 0)) ∧ Below w.heap.size w ((((wb.setCell ⟨w.heap.size, 0, none⟩ (.bool false)).setCell ⟨w.heap.size, 1, none⟩ (.slice none 0 0)).setCell ⟨w.heap.size, 2, none⟩ (.slice none 0 0)).setCell ⟨w.heap.size, 3, none⟩ (.slice none 0 0))) := Lib.hid ⟨rfl, ((((BW.out).setCell (Nat.le_refl _) _).setCell (Nat.le_refl _) _).setCell (Nat.le_refl _) _).setCell (Nat.le_refl _) _⟩
    clear XR
    go_wp2_with fail
    exact bodyPost_ret (v := .tuple #[.agg #[.bool false, .slice none 0 0, .slice none 0 0, .slice none 0 0], .int .i64 2]) (by simp [results, Try.results32, go_sem, Z0.out, Z1.out, Z2.out, Z3.out]) rfl FIN.out
set_option maxHeartbeats 1600000 in
theorem decode_other (s : ByteArray) (w : World) (h1 : 1 ≤ s.size) (h2 : s.size ≤ 240) (n1 : s.extract 0 1 ≠ ⟨#[1]⟩) (n2 : s.extract 0 1 ≠ ⟨#[2]⟩) :
    Calls Try.prog 32 #[.string s] w fun e w' => DecRes w.heap.size none e w' ∧ Below w.heap.size w w' := by
  obtain ⟨r0, hr⟩ : ∃ r0, s.extract 1 s.size = r0 := ⟨_, rfl⟩
  obtain ⟨x, hx⟩ : ∃ x, s.extract 0 1 = x := ⟨_, rfl⟩
  rw [hx] at n1 n2
  have z1 : (w.alloc (.cells #[.bool false, .slice none 0 0, .slice none 0 0, .slice none 0 0] 26)).heap.size = w.heap.size + 1 := by simp
  have z2 : ((w.alloc (.cells #[.bool false, .slice none 0 0, .slice none 0 0, .slice none 0 0] 26)).alloc (.cells #[.string r0, .bool false] 91)).heap.size = w.heap.size + 1 + 1 := by simp
  obtain ⟨w3, hw3⟩ : ∃ w3, ((w.alloc (.cells #[.bool false, .slice none 0 0, .slice none 0 0, .slice none 0 0] 26)).alloc (.cells #[.string r0, .bool false] 91)).alloc (.cells #[.bool false, .slice none 0 0, .slice none 0 0, .slice none 0 0] 26) = w3 := ⟨_, rfl⟩
  have RD0 : RDb w3 (w.heap.size + 1) r0 false := by
    rw [← hw3]
    unfold RDb
    rw [heap_alloc_old _ _ (by rw [z2]; omega), ← z1]
    exact heap_alloc_new _ _
  have X0 : w3.heap[w.heap.size]? = some (.cells #[.bool false, .slice none 0 0, .slice none 0 0, .slice none 0 0] 26) := by
    rw [← hw3, heap_alloc_old _ _ (by rw [z2]; omega), heap_alloc_old _ _ (by rw [z1]; omega)]
    exact heap_alloc_new _ _
  have X2 : w3.heap[w.heap.size + 1 + 1]? = some (.cells #[.bool false, .slice none 0 0, .slice none 0 0, .slice none 0 0] 26) := by
    rw [← hw3, ← z2]
    exact heap_alloc_new _ _
  have z3 : w3.heap.size = w.heap.size + 3 := by rw [← hw3]; simp
  have B3 : Below w.heap.size w w3 := by
    rw [← hw3]
    exact (((Below.refl _ _).alloc (Nat.le_refl _) _).alloc (by simp) _).alloc (by rw [z2]; omega) _
  have l1 : ¬ s = ByteArray.empty := fun e => by rw [e] at h1; exact absurd h1 (by decide)
  have l2 : ¬ (240 : Int) < (s.size : Int) := by omega
  have l3 : (1 : Int) ≤ (s.size : Int) := by omega
  have n1' : (x.toList == [1]) = false := first_not x 1 n1
  have n2' : (x.toList == [2]) = false := first_not x 2 n2
  have XZ2 := X0
  have HB3 := Lib.hid B3
  clear z1 z2 RD0 X0 X2 z3 B3 h1 h2 n1 n2
  go_enter Try.func32, Try.ntmps32
  go_upto_region 6 with fail
  try rw [hw3]
  have g0 : w3.cell? ⟨w.heap.size, 0, none⟩ = some (.bool false) := by rw [Go.Joins.cell_of_block XZ2]; rfl
  have g1 : w3.cell? ⟨w.heap.size, 1, none⟩ = some (.slice none 0 0) := by rw [Go.Joins.cell_of_block XZ2]; rfl
  have g2 : w3.cell? ⟨w.heap.size, 2, none⟩ = some (.slice none 0 0) := by rw [Go.Joins.cell_of_block XZ2]; rfl
  have g3 : w3.cell? ⟨w.heap.size, 3, none⟩ = some (.slice none 0 0) := by rw [Go.Joins.cell_of_block XZ2]; rfl
  have k0 := Go.Joins.unfrozen_of_block XZ2 0
  have k1 := Go.Joins.unfrozen_of_block XZ2 1
  have k2 := Go.Joins.unfrozen_of_block XZ2 2
  have k3 := Go.Joins.unfrozen_of_block XZ2 3
  have XR : ((((w3.setCell ⟨w.heap.size, 0, none⟩ (.bool false)).setCell ⟨w.heap.size, 1, none⟩ (.slice none 0 0)).setCell ⟨w.heap.size, 2, none⟩ (.slice none 0 0)).setCell ⟨w.heap.size, 3, none⟩ (.slice none 0 0)).heap[w.heap.size]? = some (.cells #[.bool false, .slice none 0 0, .slice none 0 0, .slice none 0 0] 26) := by
    rw [heap_setCell_same _ _ 3 _ _ _ (heap_setCell_same _ _ 2 _ _ _ (heap_setCell_same _ _ 1 _ _ _ (heap_setCell_same _ _ 0 _ _ _ XZ2)))]
    rfl
  have Z0 : Hid (((((w3.setCell ⟨w.heap.size, 0, none⟩ (.bool false)).setCell ⟨w.heap.size, 1, none⟩ (.slice none 0 0)).setCell ⟨w.heap.size, 2, none⟩ (.slice none 0 0)).setCell ⟨w.heap.size, 3, none⟩ (.slice none 0 0)).cell? ⟨w.heap.size, 0, none⟩ = some (.bool false)) := Lib.hid (by rw [Go.Joins.cell_of_block XR]; rfl)
  have Z1 : Hid (((((w3.setCell ⟨w.heap.size, 0, none⟩ (.bool false)).setCell ⟨w.heap.size, 1, none⟩ (.slice none 0 0)).setCell ⟨w.heap.size, 2, none⟩ (.slice none 0 0)).setCell ⟨w.heap.size, 3, none⟩ (.slice none 0 0)).cell? ⟨w.heap.size, 1, none⟩ = some (.slice none 0 0)) := Lib.hid (by rw [Go.Joins.cell_of_block XR]; rfl)
  have Z2 : Hid (((((w3.setCell ⟨w.heap.size, 0, none⟩ (.bool false)).setCell ⟨w.heap.size, 1, none⟩ (.slice none 0 0)).setCell ⟨w.heap.size, 2, none⟩ (.slice none 0 0)).setCell ⟨w.heap.size, 3, none⟩ (.slice none 0 0)).cell? ⟨w.heap.size, 2, none⟩ = some (.slice none 0 0)) := Lib.hid (by rw [Go.Joins.cell_of_block XR]; rfl)
  have Z3 : Hid (((((w3.setCell ⟨w.heap.size, 0, none⟩ (.bool false)).setCell ⟨w.heap.size, 1, none⟩ (.slice none 0 0)).setCell ⟨w.heap.size, 2, none⟩ (.slice none 0 0)).setCell ⟨w.heap.size, 3, none⟩ (.slice none 0 0)).cell? ⟨w.heap.size, 3, none⟩ = some (.slice none 0 0)) := Lib.hid (by rw [Go.Joins.cell_of_block XR]; rfl)
  have FIN : Hid (DecRes w.heap.size none (.returned (.tuple #[.agg #[.bool false, .slice none 0 0, .slice none 0 0, .slice none 0 0], .int .i64 2])) ((((w3.setCell ⟨w.heap.size, 0, none⟩ (.bool false)).setCell ⟨w.heap.size, 1, none⟩ (.slice none 0 0)).setCell ⟨w.heap.size, 2, none⟩ (.slice none 0 0)).setCell ⟨w.heap.size, 3, none⟩ (.slice none 0 0)) ∧ Below w.heap.size w ((((w3.setCell ⟨w.heap.size, 0, none⟩ (.bool false)).setCell ⟨w.heap.size, 1, none⟩ (.slice none 0 0)).setCell ⟨w.heap.size, 2, none⟩ (.slice none 0 0)).setCell ⟨w.heap.size, 3, none⟩ (.slice none 0 0))) := Lib.hid ⟨rfl, ((((HB3.out).setCell (Nat.le_refl _) _).setCell (Nat.le_refl _) _).setCell (Nat.le_refl _) _).setCell (Nat.le_refl _) _⟩
  clear XR
  go_wp2_with fail
  exact bodyPost_ret (v := .tuple #[.agg #[.bool false, .slice none 0 0, .slice none 0 0, .slice none 0 0], .int .i64 2]) (by simp [results, Try.results32, go_sem, Z0.out, Z1.out, Z2.out, Z3.out]) rfl FIN.out

/-- Decode, of any bytes. -/
theorem decode_any (s : ByteArray) (w : World) : Calls Try.prog 32 #[.string s] w fun e w' => DecRes w.heap.size (decN s) e w' ∧ Below w.heap.size w w' := by
  unfold decN
  by_cases h : s.size = 0 ∨ 240 < s.size
  · rw [if_pos h]; exact decode_size s w h
  · rw [if_neg h]
    have h1 : 1 ≤ s.size := by omega
    have h2 : s.size ≤ 240 := by omega
    have hez := ext_size s h1
    unfold rdN
    by_cases e1 : s.extract 0 1 = ⟨#[1]⟩
    · rw [if_pos e1]
      refine decode_leafB s _ w h1 h2 e1 rfl _ _ _ _ rfl (Lib.hid rfl) (fun w3 hrd => ?_)
      have := rleaf_any (w.heap.size + 1) (s.extract 1 s.size) false s.size w3 hrd (by omega) (by omega) (rdLeaf s.size (s.extract 1 s.size)).1 (rdLeaf s.size (s.extract 1 s.size)).2.1 (rdLeaf s.size (s.extract 1 s.size)).2.2 (Lib.hid rfl)
      rw [Bool.false_or] at this
      exact this
    · rw [if_neg e1]
      by_cases e2 : s.extract 0 1 = ⟨#[2]⟩
      · rw [if_pos e2]
        refine decode_branchB s _ w h1 h2 e2 rfl _ _ _ _ rfl (Lib.hid rfl) (fun w3 hrd => ?_)
        have hle := takeR_le (s.extract 1 s.size) 2
        have := rbranch_any (w.heap.size + 1) (s.extract 1 s.size) false s.size w3 hrd (by omega) (by omega) (rdBr s.size (takeR (s.extract 1 s.size) 2)).1 (rdBr s.size (takeR (s.extract 1 s.size) 2)).2.1 (rdBr s.size (takeR (s.extract 1 s.size) 2)).2.2 _ (Lib.hid rfl) (Lib.hid rfl)
        rw [Bool.false_or] at this
        exact this
      · rw [if_neg e2]
        exact decode_other s w h1 h2 e1 e2
end Go.Proofs.Ytkdcoipbdkmieaa
