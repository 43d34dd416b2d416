/-
  A drawn region whose last operation waits for all others: what a condition on the world fixes may be taken first, and the last operation need not keep it.
-/
import Derived.Test.YtkdcoipbdkmieaaSup
import Derived.OrdersHeld
import Derived.RegionTactic
import Derived.KernelRfl
namespace Go.Proofs.Ytkdcoipbdkmieaa
set_option linter.unusedVariables false
section
variable {P : Program} {ops : Array Oper} {Q : Exit → Act → World → Prop} {md : Region.Mode} {S : World → Prop} {f : Nat}
/-- All ways to go on from here; S stands behind each operation till number f has come up. -/
def ways (P : Program) (md : Region.Mode) (ops : Array Oper) (Q : Exit → Act → World → Prop) (S : World → Prop) (f : Nat) : Nat → Array Bool → Act → World → Prop
  | 0, b, a, w => Region.ready md ops b = [] ∧ Q .normal a w
  | n + 1, b, a, w => (Region.ready md ops b = [] → Q .normal a w) ∧ ∀ i, i ∈ Region.ready md ops b → wpOp P ops Q i (fun a2 w2 => ways P md ops Q S f n (b.setIfInBounds i true) a2 w2 ∧ (f ≠ i → b.getD f true = false → S w2)) a w
theorem ways_any (n : Nat) : ∀ b a w, ways P md ops Q S f n b a w → wpAny P md ops Q n b a w := by
  induction n with
  | zero => exact fun b a w h => h
  | succ n ih => exact fun b a w h => ⟨h.1, fun i hi => wpOp_mono (fun a2 w2 hk => ih _ a2 w2 hk.1) (h.2 i hi)⟩
/-- Number f waits for number i. -/
def bound (md : Region.Mode) (ops : Array Oper) (f i : Nat) : Bool :=
  match ops[f]? with
  | some o => o.after.any fun e => Region.binds md e && e.on == i
  | none => false
theorem bound_spec {i : Nat} (h : bound md ops f i = true) (b : Array Bool) (hi : i ∈ Region.ready md ops b) (hf : f ∈ Region.ready md ops b) : False := by
  obtain ⟨hu, _⟩ := mem_ready.1 hi
  obtain ⟨_, o, ho, hall⟩ := mem_ready.1 hf
  unfold bound at h
  rw [ho] at h
  obtain ⟨j, hj, he⟩ := Array.any_eq_true.1 h
  rw [Bool.and_eq_true, beq_iff_eq] at he
  have hd := hall _ (Array.getElem_mem hj) he.1
  rw [he.2] at hd
  by_cases hlt : i < b.size
  · rw [Array.getD_eq_getD_getElem?, Array.getElem?_eq_getElem hlt, Option.getD_some] at hu hd
    rw [hu] at hd
    cases hd
  · rw [Array.getD_eq_getD_getElem?, Array.getElem?_eq_none (by omega)] at hu
    cases hu
theorem set_other {b : Array Bool} {i k : Nat} (h : k ≠ i) : (b.setIfInBounds i true).getD k true = b.getD k true := by
  rw [Array.getD_eq_getD_getElem?, Array.getD_eq_getD_getElem?, Array.getElem?_setIfInBounds_ne (Ne.symm h)]
theorem set_same {b : Array Bool} {i : Nat} : (b.setIfInBounds i true).getD i true = true := by
  rw [Array.getD_eq_getD_getElem?]
  by_cases h : i < b.size
  · rw [Array.getElem?_eq_getElem (by simpa using h)]; simp
  · rw [Array.getElem?_eq_none (by simpa using h)]; rfl
theorem waits_not {i j : Nat} {b : Array Bool} (hr : i ∈ Region.ready md ops b) {oj : Oper} (hall : ∀ e ∈ oj.after, Region.binds md e = true → b.getD e.on false = true) : ∀ e ∈ oj.after, Region.binds md e = true → e.on ≠ i := by
  intro e he hbi heq
  have hd := hall e he hbi
  obtain ⟨hu, _⟩ := mem_ready.1 hr
  rw [heq] at hd
  by_cases hlt : i < b.size
  · rw [Array.getD_eq_getD_getElem?, Array.getElem?_eq_getElem hlt, Option.getD_some] at hu hd
    rw [hu] at hd
    cases hd
  · rw [Array.getD_eq_getD_getElem?, Array.getElem?_eq_none (by omega)] at hu
    cases hu
theorem ways_first {i : Nat} {oi : Oper} {v : Value} (hi : ops[i]? = some oi) (hs : Region.noSelect ops = true) (hb : bound md ops f i = true) (hif : f ≠ i) (hQ : ∀ c a w, Q (.panic c) (a.put oi.dst v) w → Q (.panic c) a w) (n : Nat) :
    ∀ (b : Array Bool) (a : Act) (w : World), (∀ j oj, ops[j]? = some oj → j ≠ i → b.getD j true = false → (∀ e ∈ oj.after, Region.binds md e = true → e.on ≠ i) → oi.apart ops oj = true) →
      i ∈ Region.ready md ops b → b.getD f true = false → YieldsIf P ops S oi v a → S w → ways P md ops Q S f n (b.setIfInBounds i true) (a.put oi.dst v) w → ways P md ops Q S f (n + 1) b a w := by
  induction n with
  | zero =>
    intro b a w hap hr hfu hy hS H
    refine ⟨fun h0 => (by rw [h0] at hr; cases hr), fun j hj => ?_⟩
    rcases Nat.decEq j i with hne | rfl
    · have hm := ready_mono hj hne
      rw [H.1] at hm
      cases hm
    · exact hy.wpOp hi hS ⟨H, fun _ _ => hS⟩
  | succ n ih =>
    intro b a w hap hr hfu hy hS H
    refine ⟨fun h0 => (by rw [h0] at hr; cases hr), fun j hj => ?_⟩
    rcases Nat.decEq j i with hne | rfl
    · have hfj : f ≠ j := fun e => bound_spec hb b hr (e ▸ hj)
      obtain ⟨hun, oj, hoj, hall⟩ := mem_ready.1 hj
      have hno := waits_not (j := j) hr hall
      have hfi : (b.setIfInBounds i true).getD f true = false := by rw [set_other hif]; exact hfu
      have hstep := wpOp_putIf hoj (hap j oj hoj hne hun hno) (fun cs x => Region.noSelect_spec hs i oi cs x hi) (fun cs x => Region.noSelect_spec hs j oj cs x hoj) hQ hy (H.2 j (ready_mono hj hne))
      refine wpOp_mono (fun a2 w2 hk => ⟨?_, fun _ _ => hk.2.2 hfj hfi⟩) hstep
      refine ih _ a2 w2 (fun k ok hk1 hki hku hkn => hap k ok hk1 hki ?_ hkn) (ready_mono hr (Ne.symm hne)) (by rw [set_other hfj]; exact hfu) hk.1 (hk.2.2 hfj hfi) ?_
      · by_cases hjk : j = k
        · rw [← hjk]; exact hun
        · rw [getD_set_ne true hjk] at hku; exact hku
      · rw [Array.setIfInBounds_comm _ _ hne]
        exact hk.2.1
    · exact hy.wpOp hi hS ⟨H, fun _ _ => hS⟩
theorem ways_free {i : Nat} {oi : Oper} {v : Value} (hi : ops[i]? = some oi) (hs : Region.noSelect ops = true) (hif : f ≠ i) (hQ : ∀ c a w, Q (.panic c) (a.put oi.dst v) w → Q (.panic c) a w) (n : Nat) :
    ∀ (b : Array Bool) (a : Act) (w : World), (∀ j oj, ops[j]? = some oj → j ≠ i → b.getD j true = false → (∀ e ∈ oj.after, Region.binds md e = true → e.on ≠ i) → oi.apart ops oj = true) →
      i ∈ Region.ready md ops b → YieldsIf P ops (fun _ => True) oi v a → (b.getD f true = false → S w) → ways P md ops Q S f n (b.setIfInBounds i true) (a.put oi.dst v) w → ways P md ops Q S f (n + 1) b a w := by
  induction n with
  | zero =>
    intro b a w hap hr hy hS H
    refine ⟨fun h0 => (by rw [h0] at hr; cases hr), fun j hj => ?_⟩
    rcases Nat.decEq j i with hne | rfl
    · have hm := ready_mono hj hne
      rw [H.1] at hm
      cases hm
    · exact hy.wpOp hi trivial ⟨H, fun _ => hS⟩
  | succ n ih =>
    intro b a w hap hr hy hS H
    refine ⟨fun h0 => (by rw [h0] at hr; cases hr), fun j hj => ?_⟩
    rcases Nat.decEq j i with hne | rfl
    · obtain ⟨hun, oj, hoj, hall⟩ := mem_ready.1 hj
      have hno := waits_not (j := j) hr hall
      have hstep := wpOp_putIf hoj (hap j oj hoj hne hun hno) (fun cs x => Region.noSelect_spec hs i oi cs x hi) (fun cs x => Region.noSelect_spec hs j oj cs x hoj) hQ hy (H.2 j (ready_mono hj hne))
      refine wpOp_mono (fun a2 w2 hk => ⟨?_, fun hfj hfu => hk.2.2 hfj (by rw [set_other hif]; exact hfu)⟩) hstep
      refine ih _ a2 w2 (fun k ok hk1 hki hku hkn => hap k ok hk1 hki ?_ hkn) (ready_mono hr (Ne.symm hne)) hk.1 (fun hfu => ?_) ?_
      · by_cases hjk : j = k
        · rw [← hjk]; exact hun
        · rw [getD_set_ne true hjk] at hku; exact hku
      · by_cases hfj : f = j
        · rw [hfj, set_same] at hfu; cases hfu
        · rw [set_other hfj] at hfu
          exact hk.2.2 hfj (by rw [set_other hif]; exact hfu)
      · rw [Array.setIfInBounds_comm _ _ hne]
        exact hk.2.1
    · exact hy.wpOp hi trivial ⟨H, fun _ => hS⟩
theorem ways_take {i : Nat} {oi : Oper} (v : Value) {n : Nat} {b : Array Bool} {a : Act} {w : World} (hi : ops[i]? = some oi) (hs : Region.noSelect ops = true) (hb : (bound md ops f i && !(f == i) && !(b.getD f true)) = true) (hf : Region.free md ops b i = true) (hr : (Region.ready md ops b).contains i = true)
    (hQ : ∀ c a w, Q (.panic c) (a.put oi.dst v) w → Q (.panic c) a w) (hS : S w) (hw : Region.wanted oi (yielded ops a.tmps) = true) (hy : ∀ w, S w → (execOp a.eval oi).run P w = .ok (.value v) w)
    (h : ways P md ops Q S f n (b.setIfInBounds i true) (a.put oi.dst v) w) : ways P md ops Q S f (n + 1) b a w := by
  rw [Bool.and_eq_true, Bool.and_eq_true] at hb
  exact ways_first hi hs hb.1.1 (by have := hb.1.2; simpa using this) hQ n b a w (Region.free_spec hi hf) (by simpa using hr) (by have := hb.2; simpa using this) (.inl ⟨hw, hy⟩) hS h
/-- An operation that yields its value in whatever world. -/
theorem ways_skip {i : Nat} {oi : Oper} (v : Value) {n : Nat} {b : Array Bool} {a : Act} {w : World} (hi : ops[i]? = some oi) (hs : Region.noSelect ops = true) (hb : (!(f == i)) = true) (hf : Region.free md ops b i = true) (hr : (Region.ready md ops b).contains i = true)
    (hQ : ∀ c a w, Q (.panic c) (a.put oi.dst v) w → Q (.panic c) a w) (hS : S w) (hw : Region.wanted oi (yielded ops a.tmps) = true) (hy : ∀ w, (execOp a.eval oi).run P w = .ok (.value v) w)
    (h : ways P md ops Q S f n (b.setIfInBounds i true) (a.put oi.dst v) w) : ways P md ops Q S f (n + 1) b a w :=
  ways_free hi hs (by simpa using hb) hQ n b a w (Region.free_spec hi hf) (by simpa using hr) (.inl ⟨hw, fun w _ => hy w⟩) (fun _ => hS) h
theorem ways_step {i : Nat} {oi : Oper} {n : Nat} {b : Array Bool} {a : Act} {w : World} (hi : ops[i]? = some oi) (hr : Region.ready md ops b = [i])
    (h : ∀ K : Act → World → Prop, (∀ a2 w2, ways P md ops Q S f n (b.setIfInBounds i true) a2 w2 → (f ≠ i → S w2) → K a2 w2) → if Region.wanted oi (yielded ops a.tmps) = true then Oper.wp P oi a w K Q else K (a.put oi.dst undef) w) : ways P md ops Q S f (n + 1) b a w := by
  refine ⟨fun h0 => (by rw [hr] at h0; cases h0), fun j hj => ?_⟩
  rw [hr, List.mem_singleton] at hj
  subst hj
  exact wpOp_step hi fun K hK => h K fun a2 w2 h1 h2 => hK a2 w2 ⟨h1, fun h3 _ => h2 h3⟩
theorem ways_done {n : Nat} {b : Array Bool} {a : Act} {w : World} (hr : Region.ready md ops b = []) (h : Q .normal a w) : ways P md ops Q S f n b a w := by
  cases n with
  | zero => exact ⟨hr, h⟩
  | succ n => exact ⟨fun _ => h, fun i hi => (by rw [hr] at hi; cases hi)⟩
theorem region_ways (S : World → Prop) (f : Nat) {id : Nat} {a : Act} {w : World} (hm : P.follows .mixedOrders = true) (h : ways P .any ops Q S f ops.size (Array.replicate ops.size false) a w.drew) : (Code.region id ops true).wp P Q a w :=
  wp_region_any hm (ways_any _ _ _ _ h)
end
end Go.Proofs.Ytkdcoipbdkmieaa
