/-
  A region that draws its order, operation by operation, under a condition that stands behind each: what yields its value under it is taken first, by its slot; what is left comes up alone, or as one of two.
-/
import Derived.Test.YtlbnakoaflladaaSup
import Derived.Deep.RegionHeld
namespace Go.Proofs.Ytlbnakoaflladaa
set_option linter.unusedVariables false
section
variable {P : Program} {ops : Array Oper} {Q : Exit → Act → World → Prop} {md : Region.Mode} {S : World → Prop}
theorem held_take {i : Nat} (d : Tmp) {oi : Oper} (v : Value) {n : Nat} {b : Array Bool} {a : Act} {w : World} (hi : ops[i]? = some oi) (hd : oi.dst = some d) (hs : Region.noSelect ops = true) (hf : Region.free md ops b i = true) (hr : (Region.ready md ops b).contains i = true)
    (hQ : ∀ c a w, Q (.panic c) (a.put oi.dst v) w → Q (.panic c) a w) (hS : S w) (hw : Region.wanted oi (yielded ops a.tmps) = true) (hy : ∀ w, S w → (execOp a.eval oi).run P w = .ok (.value v) w)
    (h : wpAnyH P md ops Q S n (b.setIfInBounds i true) { tmps := a.tmps.setIfInBounds d v, defers := a.defers } w) : wpAnyH P md ops Q S (n + 1) b a w :=
  wpAnyH_take hi hs hf hr hQ (.inl ⟨hw, hy⟩) hS (by rw [hd]; exact h)
theorem held_none {i : Nat} (d : Tmp) {oi : Oper} {n : Nat} {b : Array Bool} {a : Act} {w : World} (hi : ops[i]? = some oi) (hd : oi.dst = some d) (hs : Region.noSelect ops = true) (hf : Region.free md ops b i = true) (hr : (Region.ready md ops b).contains i = true)
    (hQ : ∀ c a w, Q (.panic c) (a.put oi.dst undef) w → Q (.panic c) a w) (hS : S w) (hw : Region.wanted oi (yielded ops a.tmps) = false)
    (h : wpAnyH P md ops Q S n (b.setIfInBounds i true) { tmps := a.tmps.setIfInBounds d undef, defers := a.defers } w) : wpAnyH P md ops Q S (n + 1) b a w :=
  wpAnyH_take hi hs hf hr hQ (.inr ⟨hw, rfl⟩) hS (by rw [hd]; exact h)
theorem held_step {i : Nat} {oi : Oper} {n : Nat} {b : Array Bool} {a : Act} {w : World} (hi : ops[i]? = some oi) (hr : Region.ready md ops b = [i])
    (h : ∀ K : Act → World → Prop, (∀ a2 w2, S w2 → wpAnyH P md ops Q S n (b.setIfInBounds i true) a2 w2 → K a2 w2) → if Region.wanted oi (yielded ops a.tmps) = true then Oper.wp P oi a w K Q else K (a.put oi.dst undef) w) : wpAnyH P md ops Q S (n + 1) b a w :=
  wpAnyH_ready hr (by simp) (AllReadyH.cons hi (fun K hK => h K fun a2 w2 h1 h2 => hK.out a2 w2 h1 fun _ => h2) AllReadyH.nil)
theorem held_fork {i j : Nat} {oi oj : Oper} {n : Nat} {b : Array Bool} {a : Act} {w : World} (hi : ops[i]? = some oi) (hj : ops[j]? = some oj) (hr : Region.ready md ops b = [i, j])
    (h : ∀ K : Act → World → Prop, (∀ a2 w2, S w2 → wpAnyH P md ops Q S n (b.setIfInBounds i true) a2 w2 → K a2 w2) → if Region.wanted oi (yielded ops a.tmps) = true then Oper.wp P oi a w K Q else K (a.put oi.dst undef) w)
    (h2 : ∀ K : Act → World → Prop, (∀ a2 w2, S w2 → wpAnyH P md ops Q S n (b.setIfInBounds j true) a2 w2 → K a2 w2) → if Region.wanted oj (yielded ops a.tmps) = true then Oper.wp P oj a w K Q else K (a.put oj.dst undef) w) : wpAnyH P md ops Q S (n + 1) b a w :=
  wpAnyH_ready hr (by simp) (AllReadyH.cons hi (fun K hK => h K fun a2 w2 h1 h2 => hK.out a2 w2 h1 fun _ => h2) (AllReadyH.cons hj (fun K hK => h2 K fun a2 w2 h1 h2 => hK.out a2 w2 h1 fun _ => h2) AllReadyH.nil))
end
end Go.Proofs.Ytlbnakoaflladaa
