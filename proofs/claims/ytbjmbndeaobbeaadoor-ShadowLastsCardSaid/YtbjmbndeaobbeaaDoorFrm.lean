/-
  What a call that works on blocks of its own leaves as it was: all blocks but those of a footprint.
-/
import Derived.Test.YtbjmbndeaobbeaaDoorSup
import Derived.Laws.Rows
import Derived.Laws.Tables
import Derived.Laws.CopyOwn
namespace Go.Proofs.YtbjmbndeaobbeaaDoor
open Go.RowKit
set_option linter.unusedVariables false
/-- All blocks but those of F are as they were. -/
structure Frm (F : Nat → Prop) (w w' : World) : Prop where
  os : w'.os = w.os
  tape : w'.tape = w.tape
  output : w'.output = w.output
  size : w.heap.size ≤ w'.heap.size
  block : ∀ k, k < w.heap.size → ¬ F k → w'.heap[k]? = w.heap[k]?
theorem Frm.refl (F : Nat → Prop) (w : World) : Frm F w w := ⟨rfl, rfl, rfl, Nat.le_refl _, fun _ _ _ => rfl⟩
theorem Frm.trans {F G : Nat → Prop} {a b c : World} (h : Frm F a b) (k : Frm G b c) (hG : ∀ i, G i → F i ∨ a.heap.size ≤ i) : Frm F a c :=
  ⟨k.os.trans h.os, k.tape.trans h.tape, k.output.trans h.output, Nat.le_trans h.size k.size, fun i hi hf => by
    rw [k.block i (Nat.lt_of_lt_of_le hi h.size) (fun hg => by rcases hG i hg with hx | hx; exact hf hx; omega)]
    exact h.block i hi hf⟩
theorem Frm.mono {F G : Nat → Prop} {a b : World} (h : Frm F a b) (hG : ∀ i, F i → G i) : Frm G a b :=
  ⟨h.os, h.tape, h.output, h.size, fun i hi hf => h.block i hi fun hx => hf (hG i hx)⟩
theorem Frm.of_below {F : Nat → Prop} {a b : World} (h : Below a.heap.size a b) : Frm F a b := ⟨h.os, h.tape, h.output, h.size, fun i hi _ => h.block i hi⟩
theorem Frm.below {F : Nat → Prop} {B : Nat} {a b : World} (h : Frm F a b) (hF : ∀ i, F i → B ≤ i) (hB : B ≤ a.heap.size) : Below B a b :=
  ⟨h.os, h.tape, h.output, h.size, fun i hi => h.block i (by omega) fun hx => by have := hF i hx; omega⟩
theorem Frm.drew {F : Nat → Prop} {a w : World} (h : Frm F a w) : Frm F a w.drew := ⟨h.os, h.tape, h.output, h.size, h.block⟩
theorem Frm.drewN {F : Nat → Prop} {a w : World} (h : Frm F a w) (n : Nat) : Frm F a (w.drewN n) := ⟨h.os, h.tape, h.output, h.size, h.block⟩
theorem Frm.alloc {F : Nat → Prop} {a w : World} (h : Frm F a w) (o : Obj) : Frm F a (w.alloc o) :=
  h.trans (G := fun _ => False) (Frm.of_below ((Below.refl _ _).alloc (Nat.le_refl _) o)) fun _ hx => hx.elim
theorem Frm.setCell {F : Nat → Prop} {a w : World} (h : Frm F a w) (p : Addr) (u : Value) (hp : F p.block ∨ a.heap.size ≤ p.block) : Frm F a (w.setCell p u) :=
  h.trans (G := fun i => i = p.block) ⟨rfl, rfl, rfl, by simp [World.setCell], fun k _ hk => Below.heap_setCell _ _ _ _ hk⟩ fun i hi => by subst hi; exact hp
theorem Frm.setObj {F : Nat → Prop} {a w : World} (h : Frm F a w) (r : Nat) (o : Obj) (hp : F r ∨ a.heap.size ≤ r) : Frm F a { w with heap := w.heap.setIfInBounds r o } :=
  h.trans (G := fun i => i = r) ⟨rfl, rfl, rfl, by simp, fun k _ hk => by
    show (w.heap.setIfInBounds r o)[k]? = _
    rw [Array.getElem?_setIfInBounds_ne (Ne.symm hk)]⟩ fun i hi => by subst hi; exact hp
theorem Frm.setRow {F : Nat → Prop} {a w : World} (h : Frm F a w) (g : Nat) (cs : Array Value) (hp : F g ∨ a.heap.size ≤ g) : Frm F a (w.setRow g cs) :=
  h.trans (G := fun i => i = g) ⟨rfl, rfl, rfl, by simp, fun k _ hk => setRow_other w g k cs hk⟩ fun i hi => by subst hi; exact hp
theorem Frm.grown {F : Nat → Prop} {a w w' : World} {row : Option Nat} (h : Frm F a w) (hg : w.grownBy w' row) (hr : ∀ k, row = some k → F k ∨ a.heap.size ≤ k) : Frm F a w' :=
  h.trans (G := fun i => row = some i) ⟨hg.os, hg.tape, hg.output, hg.size, fun k hk hne => hg.block k hk fun e => hne e.symm⟩ hr
end Go.Proofs.YtbjmbndeaobbeaaDoor
