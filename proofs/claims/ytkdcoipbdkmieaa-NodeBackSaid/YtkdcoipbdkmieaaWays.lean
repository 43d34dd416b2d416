/-
  An operation of a drawn region that its guard does not ask yields nothing: it may be taken first.
-/
import Derived.Test.YtkdcoipbdkmieaaLastOp
namespace Go.Proofs.Ytkdcoipbdkmieaa
set_option linter.unusedVariables false
section
variable {P : Program} {ops : Array Oper} {Q : Exit → Act → World → Prop} {md : Region.Mode} {S : World → Prop} {f : Nat}
theorem ways_none {i : Nat} {oi : Oper} {n : Nat} {b : Array Bool} {a : Act} {w : World} (hi : ops[i]? = some oi) (hs : Region.noSelect ops = true) (hb : (!(f == i)) = true) (hf : Region.free md ops b i = true) (hr : (Region.ready md ops b).contains i = true)
    (hQ : ∀ c a w, Q (.panic c) (a.put oi.dst undef) w → Q (.panic c) a w) (hS : S w) (hw : Region.wanted oi (yielded ops a.tmps) = false)
    (h : ways P md ops Q S f n (b.setIfInBounds i true) (a.put oi.dst undef) w) : ways P md ops Q S f (n + 1) b a w :=
  ways_free hi hs (by simpa using hb) hQ n b a w (Region.free_spec hi hf) (by simpa using hr) (.inr ⟨hw, rfl⟩) (fun _ => hS) h
/-- The same, the slot given. -/
theorem ways_noned {i : Nat} (d : Tmp) {oi : Oper} {n : Nat} {b : Array Bool} {a : Act} {w : World} (hi : ops[i]? = some oi) (hd : oi.dst = some d) (hs : Region.noSelect ops = true) (hb : (!(f == i)) = true) (hf : Region.free md ops b i = true) (hr : (Region.ready md ops b).contains i = true)
    (hQ : ∀ c a w, Q (.panic c) (a.put oi.dst undef) w → Q (.panic c) a w) (hS : S w) (hw : Region.wanted oi (yielded ops a.tmps) = false)
    (h : ways P md ops Q S f n (b.setIfInBounds i true) { tmps := a.tmps.setIfInBounds d undef, defers := a.defers } w) : ways P md ops Q S f (n + 1) b a w :=
  ways_none hi hs hb hf hr hQ hS hw (by rw [hd]; exact h)
theorem ways_skipd {i : Nat} (d : Tmp) {oi : Oper} (v : Value) {n : Nat} {b : Array Bool} {a : Act} {w : World} (hi : ops[i]? = some oi) (hd : oi.dst = some d) (hs : Region.noSelect ops = true) (hb : (!(f == i)) = true) (hf : Region.free md ops b i = true) (hr : (Region.ready md ops b).contains i = true)
    (hQ : ∀ c a w, Q (.panic c) (a.put oi.dst v) w → Q (.panic c) a w) (hS : S w) (hw : Region.wanted oi (yielded ops a.tmps) = true) (hy : ∀ w, (execOp a.eval oi).run P w = .ok (.value v) w)
    (h : ways P md ops Q S f n (b.setIfInBounds i true) { tmps := a.tmps.setIfInBounds d v, defers := a.defers } w) : ways P md ops Q S f (n + 1) b a w :=
  ways_skip v hi hs hb hf hr hQ hS hw hy (by rw [hd]; exact h)
theorem ways_taked {i : Nat} (d : Tmp) {oi : Oper} (v : Value) {n : Nat} {b : Array Bool} {a : Act} {w : World} (hi : ops[i]? = some oi) (hd : oi.dst = some d) (hs : Region.noSelect ops = true) (hb : (bound md ops f i && !(f == i) && !(b.getD f true)) = true) (hf : Region.free md ops b i = true) (hr : (Region.ready md ops b).contains i = true)
    (hQ : ∀ c a w, Q (.panic c) (a.put oi.dst v) w → Q (.panic c) a w) (hS : S w) (hw : Region.wanted oi (yielded ops a.tmps) = true) (hy : ∀ w, S w → (execOp a.eval oi).run P w = .ok (.value v) w)
    (h : ways P md ops Q S f n (b.setIfInBounds i true) { tmps := a.tmps.setIfInBounds d v, defers := a.defers } w) : ways P md ops Q S f (n + 1) b a w :=
  ways_take v hi hs hb hf hr hQ hS hw hy (by rw [hd]; exact h)
end
end Go.Proofs.Ytkdcoipbdkmieaa
