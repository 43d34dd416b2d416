/-
  Package shadow: Take, Give, Rollback, what may be the root.
-/
import Derived.Test.YtbjmbndeaobbeaaDoorShM1
namespace Go.Proofs.YtbjmbndeaobbeaaDoor
open Go.RowKit
set_option linter.unusedVariables false
set_option linter.unusedSimpArgs false
def freeB (st : ShS) (n : Int) : Bool := !hasB st.h.used n && !decide (n ∈ st.fresh)
theorem heap_setIf_ne (w : World) (m k : Nat) (o : Obj) (h : k ≠ m) : ({ w with heap := w.heap.setIfInBounds m o } : World).heap[k]? = w.heap[k]? := by
  show (w.heap.setIfInBounds m o)[k]? = _
  rw [Array.getElem?_setIfInBounds_ne (Ne.symm h)]
theorem StoIn.setFresh {w : World} {s d f g : Nat} {st : ShS} (h : StoIn w s d f g st) (o : Obj) (L : List Int) (hs : SetI { w with heap := w.heap.setIfInBounds f o } f L) (hb : ∀ x ∈ L, 2 ≤ x ∧ x < 640) : StoIn { w with heap := w.heap.setIfInBounds f o } s d f g { st with fresh := L } :=
  { cell := (heap_setIf_ne w f s o h.sf).trans h.cell
    fr := hs
    gv := h.gv.kept (heap_setIf_ne w f g o (Ne.symm h.fg))
    sf := h.sf
    sg := h.sg
    fg := h.fg
    ok := h.ok
    fb := hb
    gb := h.gb }
theorem StoIn.setGiven {w : World} {s d f g : Nat} {st : ShS} (h : StoIn w s d f g st) (o : Obj) (L : List Int) (hs : SetI { w with heap := w.heap.setIfInBounds g o } g L) (hb : ∀ x ∈ L, 2 ≤ x ∧ x < 640) : StoIn { w with heap := w.heap.setIfInBounds g o } s d f g { st with given := L } :=
  { cell := (heap_setIf_ne w g s o h.sg).trans h.cell
    fr := h.fr.kept (heap_setIf_ne w g f o h.fg)
    gv := hs
    sf := h.sf
    sg := h.sg
    fg := h.fg
    ok := h.ok
    fb := h.fb
    gb := hb }
theorem Frm.setIf {F : Nat → Prop} {a w : World} (h : Frm F a w) (r : Nat) (o : Obj) (hp : F r) : Frm F a { w with heap := w.heap.setIfInBounds r o } := h.setObj r o (.inl hp)
/-- A set that is put into: fresh. -/
theorem Sto.putFresh {w : World} {s d : Nat} {st : ShS} {F : Nat → Prop} (h : Sto w s d st F) (n : Int) (hn : n ∉ st.fresh) (h2 : 2 ≤ n) (h6 : n < 640) :
    ∃ f w', w.cell? ⟨s, 4, none⟩ = some (.map (some f)) ∧ (Instr.mapUpdate 56 (.map (some f)) (.int .i64 n) (.agg #[])).run Tryd.prog w = .ok () w' ∧ Sto w' s d { st with fresh := st.fresh ++ [n] } F ∧ Frm F w w' := by
  obtain ⟨f, g, hi, he⟩ := h
  obtain ⟨o, hr, hs⟩ := putS (P := Tryd.prog) Tryd.underlying56 Tryd.underlying3 hi.fr n hn
  obtain ⟨c0, c1, c2, c3, c4, c5, c6⟩ := hi.cells
  refine ⟨f, _, c4, hr, ⟨f, g, hi.setFresh o _ hs ?_, he⟩, (Frm.refl F w).setIf f o ((he f).2 (.inr (.inl rfl)))⟩
  intro x hx
  rcases List.mem_append.1 hx with hx | hx
  · exact hi.fb x hx
  · simp at hx; subst hx; exact ⟨h2, h6⟩
theorem Sto.putGiven {w : World} {s d : Nat} {st : ShS} {F : Nat → Prop} (h : Sto w s d st F) (n : Int) (hn : n ∉ st.given) (h2 : 2 ≤ n) (h6 : n < 640) :
    ∃ f w', w.cell? ⟨s, 5, none⟩ = some (.map (some f)) ∧ (Instr.mapUpdate 56 (.map (some f)) (.int .i64 n) (.agg #[])).run Tryd.prog w = .ok () w' ∧ Sto w' s d { st with given := st.given ++ [n] } F ∧ Frm F w w' := by
  obtain ⟨f, g, hi, he⟩ := h
  obtain ⟨o, hr, hs⟩ := putS (P := Tryd.prog) Tryd.underlying56 Tryd.underlying3 hi.gv n hn
  obtain ⟨c0, c1, c2, c3, c4, c5, c6⟩ := hi.cells
  refine ⟨g, _, c5, hr, ⟨f, g, hi.setGiven o _ hs ?_, he⟩, (Frm.refl F w).setIf g o ((he g).2 (.inr (.inr rfl)))⟩
  intro x hx
  rcases List.mem_append.1 hx with hx | hx
  · exact hi.gb x hx
  · simp at hx; subst hx; exact ⟨h2, h6⟩
theorem Sto.delFresh {w : World} {s d : Nat} {st : ShS} {F : Nat → Prop} (h : Sto w s d st F) (n : Int) (ty : TypeId) :
    ∃ f w', w.cell? ⟨s, 4, none⟩ = some (.map (some f)) ∧ (Builtin.delete_ #[56, 3] ty #[.map (some f), .int .i64 n]).run Tryd.prog w = .ok (.tuple #[]) w' ∧ Sto w' s d { st with fresh := st.fresh.filter fun x => decide (x ≠ n) } F ∧ Frm F w w' := by
  obtain ⟨f, g, hi, he⟩ := h
  obtain ⟨o, hr, hs⟩ := delS (P := Tryd.prog) Tryd.underlying56 Tryd.underlying3 hi.fr n ty
  obtain ⟨c0, c1, c2, c3, c4, c5, c6⟩ := hi.cells
  exact ⟨f, _, c4, hr, ⟨f, g, hi.setFresh o _ hs (fun x hx => hi.fb x (List.mem_filter.1 hx).1), he⟩, (Frm.refl F w).setIf f o ((he f).2 (.inr (.inl rfl)))⟩
theorem Sto.clearFresh {w : World} {s d : Nat} {st : ShS} {F : Nat → Prop} (h : Sto w s d st F) (ty : TypeId) :
    ∃ f w', w.cell? ⟨s, 4, none⟩ = some (.map (some f)) ∧ (Builtin.clear_ #[56] ty #[.map (some f)]).run Tryd.prog w = .ok (.tuple #[]) w' ∧ Sto w' s d { st with fresh := [] } F ∧ Frm F w w' := by
  obtain ⟨f, g, hi, he⟩ := h
  obtain ⟨o, hr, hs⟩ := clearS (P := Tryd.prog) Tryd.underlying56 hi.fr ty
  obtain ⟨c0, c1, c2, c3, c4, c5, c6⟩ := hi.cells
  exact ⟨f, _, c4, hr, ⟨f, g, hi.setFresh o _ hs (fun x hx => by cases hx), he⟩, (Frm.refl F w).setIf f o ((he f).2 (.inr (.inl rfl)))⟩
theorem Sto.clearGiven {w : World} {s d : Nat} {st : ShS} {F : Nat → Prop} (h : Sto w s d st F) (ty : TypeId) :
    ∃ f w', w.cell? ⟨s, 5, none⟩ = some (.map (some f)) ∧ (Builtin.clear_ #[56] ty #[.map (some f)]).run Tryd.prog w = .ok (.tuple #[]) w' ∧ Sto w' s d { st with given := [] } F ∧ Frm F w w' := by
  obtain ⟨f, g, hi, he⟩ := h
  obtain ⟨o, hr, hs⟩ := clearS (P := Tryd.prog) Tryd.underlying56 hi.gv ty
  obtain ⟨c0, c1, c2, c3, c4, c5, c6⟩ := hi.cells
  exact ⟨g, _, c5, hr, ⟨f, g, hi.setGiven o _ hs (fun x hx => by cases hx), he⟩, (Frm.refl F w).setIf g o ((he g).2 (.inr (.inr rfl)))⟩
def ShS.back (st : ShS) : ShS := { st with fresh := [], given := [] }
set_option maxHeartbeats 1600000 in
set_option maxRecDepth 20000 in
theorem rollback_is (w : World) (s d : Nat) (st : ShS) (F : Nat → Prop) (h : Sto w s d st F) :
    Calls Tryd.prog 23 #[.pointer (some ⟨s, 0, none⟩)] w (Void fun w' => Sto w' s d st.back F ∧ Frm F w w') := by
  obtain ⟨f, w1, c4, hr1, h1, f1⟩ := h.clearFresh 0
  obtain ⟨g, w2, c5, hr2, h2, f2⟩ := h1.clearGiven 0
  have FIN : Hid (Sto w2 s d st.back F ∧ Frm F w w2) := Lib.hid ⟨h2, f1.trans f2 (fun i hi => .inl hi)⟩
  clear h h1 h2 f1 f2
  go_enter Tryd.func23, Tryd.ntmps23
  go_wp2_with fail
  go_end0
  exact ⟨rfl, FIN.out⟩
end Go.Proofs.YtbjmbndeaobbeaaDoor
