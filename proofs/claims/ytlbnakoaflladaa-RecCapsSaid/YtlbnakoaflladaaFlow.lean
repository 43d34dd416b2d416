/-
  A region that draws its order, by what each operation yields: whatever the order is, each operation is met once. The last operation may wait for all others.
-/
import Derived.Test.YtlbnakoaflladaaSup
import Derived.OrdersHeld
import Derived.RegionTactic
import Derived.KernelRfl
namespace Go.Proofs.Ytlbnakoaflladaa
set_option linter.unusedVariables false
set_option linter.unusedSimpArgs false
section
variable {P : Program} {ops : Array Oper} {Q : Exit → Act → World → Prop} {md : Region.Mode}
/-- Operation i waits for these. -/
def waits (md : Region.Mode) (o : Oper) (j : Nat) : Bool := o.after.any fun e => Region.binds md e && e.on == j
/-- Each of a list is waited for by one that was seen. -/
def chainOk (md : Region.Mode) (ops : Array Oper) : List Nat → List Nat → Bool
  | _, [] => true
  | seen, i :: r => seen.any (fun j => match ops[j]? with | some o => waits md o i | none => false) && chainOk md ops (i :: seen) r
/-- The slots differ, lie among n, are looked at by those behind alone. -/
def slotsOk (md : Region.Mode) (f n : Nat) : List Oper → Nat → List Nat → Bool
  | [], _, _ => true
  | o :: r, i, seen =>
    (o.after.all fun e => !Region.binds md e || decide (e.on < i)) &&
    (if i = f then slotsOk md f n r (i + 1) seen
     else match o.dst with
      | none => slotsOk md f n r (i + 1) seen
      | some d => !seen.contains d && decide (d < n) && slotsOk md f n r (i + 1) (d :: seen))
def flowOk (md : Region.Mode) (ops : Array Oper) (f n : Nat) : Bool :=
  slotsOk md f n ops.toList 0 [] && (!decide (f < ops.size) || chainOk md ops [f] ((List.range ops.size).reverse.filter fun i => i != f))
/-- No operation but f writes to the slot. -/
def unset (ops : Array Oper) (f t : Nat) : Prop := ∀ i o, ops[i]? = some o → i ≠ f → o.dst ≠ some t
theorem slotsOk_after {f n : Nat} : ∀ (l : List Oper) (i : Nat) (seen : List Nat), slotsOk md f n l i seen = true → ∀ j o, l[j]? = some o → ∀ e ∈ o.after, Region.binds md e = true → e.on < i + j := by
  intro l
  induction l with
  | nil => intro i seen _ j o h; simp at h
  | cons p r ih =>
    intro i seen h j o hj e he hb
    unfold slotsOk at h
    rw [Bool.and_eq_true] at h
    cases j with
    | zero =>
      have : p = o := by simpa using hj
      subst this
      have := Array.all_eq_true_iff_forall_mem.1 h.1 e he
      rw [hb] at this
      simpa using this
    | succ j =>
      have hr : ∃ s, slotsOk md f n r (i + 1) s = true := by
        have h2 := h.2
        split at h2
        · exact ⟨_, h2⟩
        · split at h2
          · exact ⟨_, h2⟩
          · rw [Bool.and_eq_true] at h2; exact ⟨_, h2.2⟩
      obtain ⟨s, hs⟩ := hr
      have := ih (i + 1) s hs j o (by simpa using hj) e he hb
      omega
theorem slotsOk_dst {f n : Nat} : ∀ (l : List Oper) (i : Nat) (seen : List Nat), slotsOk md f n l i seen = true →
    ∀ j o d, l[j]? = some o → i + j ≠ f → o.dst = some d → d < n ∧ d ∉ seen ∧ ∀ k q, k < j → l[k]? = some q → i + k ≠ f → q.dst ≠ some d := by
  intro l
  induction l with
  | nil => intro i seen _ j o d h; simp at h
  | cons p r ih =>
    intro i seen h j o d hj hf hd
    unfold slotsOk at h
    rw [Bool.and_eq_true] at h
    have h2 := h.2
    clear h
    cases j with
    | zero =>
      have : p = o := by simpa using hj
      subst this
      rw [if_neg (by simpa using hf), hd] at h2
      simp only [Bool.and_eq_true, Bool.not_eq_true', decide_eq_true_eq] at h2
      refine ⟨h2.1.2, ?_, fun k q hk => absurd hk (Nat.not_lt_zero _)⟩
      have := h2.1.1
      simpa using this
    | succ j =>
      have hj' : r[j]? = some o := by simpa using hj
      by_cases hif : i = f
      · rw [if_pos hif] at h2
        obtain ⟨a1, a2, a3⟩ := ih (i + 1) seen h2 j o d hj' (by omega) hd
        refine ⟨a1, a2, fun k q hk hq hkf => ?_⟩
        cases k with
        | zero => exact absurd hif (by simpa using hkf)
        | succ k => exact a3 k q (by omega) (by simpa using hq) (by omega)
      · rw [if_neg hif] at h2
        cases hpd : p.dst with
        | none =>
          rw [hpd] at h2
          obtain ⟨a1, a2, a3⟩ := ih (i + 1) seen h2 j o d hj' (by omega) hd
          refine ⟨a1, a2, fun k q hk hq hkf => ?_⟩
          cases k with
          | zero =>
            have : p = q := by simpa using hq
            subst this
            rw [hpd]; simp
          | succ k => exact a3 k q (by omega) (by simpa using hq) (by omega)
        | some d0 =>
          rw [hpd] at h2
          simp only [Bool.and_eq_true] at h2
          obtain ⟨a1, a2, a3⟩ := ih (i + 1) (d0 :: seen) h2.2 j o d hj' (by omega) hd
          rw [List.mem_cons, not_or] at a2
          refine ⟨a1, a2.2, fun k q hk hq hkf => ?_⟩
          cases k with
          | zero =>
            have : p = q := by simpa using hq
            subst this
            rw [hpd]
            exact fun e => a2.1 (Option.some.inj e).symm
          | succ k => exact a3 k q (by omega) (by simpa using hq) (by omega)
theorem flowOk_dst {f n : Nat} (h : flowOk md ops f n = true) : (∀ i o d, ops[i]? = some o → i ≠ f → o.dst = some d → d < n) ∧ ∀ i j p q d, ops[i]? = some p → ops[j]? = some q → i ≠ f → j ≠ f → p.dst = some d → q.dst = some d → i = j := by
  unfold flowOk at h
  rw [Bool.and_eq_true] at h
  have hs := slotsOk_dst ops.toList 0 [] h.1
  have key : ∀ i o d, ops[i]? = some o → i ≠ f → o.dst = some d → d < n ∧ d ∉ ([] : List Nat) ∧ ∀ k q, k < i → ops[k]? = some q → k ≠ f → q.dst ≠ some d := by
    intro i o d hi hf hd
    have := hs i o d (by simpa using hi) (by omega) hd
    exact ⟨this.1, this.2.1, fun k q hk hq hkf => this.2.2 k q hk (by simpa using hq) (by omega)⟩
  refine ⟨fun i o d hi hf hd => (key i o d hi hf hd).1, fun i j p q d hi hj hif hjf hp hq => ?_⟩
  rcases Nat.lt_trichotomy i j with hlt | heq | hgt
  · exact absurd hp ((key j q d hj hjf hq).2.2 i p hlt hi hif)
  · exact heq
  · exact absurd hq ((key i p d hi hif hp).2.2 j q hgt hj hjf)
theorem flowOk_after {f n : Nat} (h : flowOk md ops f n = true) : ∀ i o, ops[i]? = some o → ∀ e ∈ o.after, Region.binds md e = true → e.on < i := by
  unfold flowOk at h
  rw [Bool.and_eq_true] at h
  intro i o hi e he hb
  have := slotsOk_after ops.toList 0 [] h.1 i o (by simpa using hi) e he hb
  omega
theorem chain_listed {listed : Array Bool} {f : Nat} (hc : ∀ i o, ops[i]? = some o → listed.getD i false = true → ∀ e ∈ o.after, Region.binds md e = true → listed.getD e.on false = true)
    (hf : ∀ o, ops[f]? = some o → ∀ e ∈ o.after, Region.binds md e = true → listed.getD e.on false = true) :
    ∀ (todo seen : List Nat), chainOk md ops seen todo = true → (∀ j ∈ seen, j = f ∨ listed.getD j false = true) → ∀ i ∈ todo, listed.getD i false = true := by
  intro todo
  induction todo with
  | nil => intro seen _ _ i hi; cases hi
  | cons t r ih =>
    intro seen h hs i hi
    unfold chainOk at h
    rw [Bool.and_eq_true] at h
    have ht : listed.getD t false = true := by
      obtain ⟨j, hj, hw⟩ := List.any_eq_true.1 h.1
      cases ho : ops[j]? with
      | none => rw [ho] at hw; cases hw
      | some o =>
        rw [ho] at hw
        obtain ⟨k, hk, he⟩ := Array.any_eq_true.1 hw
        rw [Bool.and_eq_true, beq_iff_eq] at he
        rcases hs j hj with rfl | hl
        · have := hf o ho _ (Array.getElem_mem hk) he.1
          rwa [he.2] at this
        · have := hc j o ho hl _ (Array.getElem_mem hk) he.1
          rwa [he.2] at this
    rcases List.mem_cons.1 hi with rfl | hi
    · exact ht
    · exact ih (t :: seen) h.2 (fun j hj => by rcases List.mem_cons.1 hj with rfl | hj; exact .inr ht; exact hs j hj) i hi
/-- What stands on the way: the operations that are done have yielded what they should. -/
structure Flow (md : Region.Mode) (ops : Array Oper) (f : Nat) (I : Nat → Value → World → Prop) (S : World → Prop) (a0 : Act) (b : Array Bool) (a : Act) (w : World) : Prop where
  s : S w
  size : a.tmps.size = a0.tmps.size
  defers : a.defers = a0.defers
  old : ∀ t, unset ops f t → a.tmps.getD t undef = a0.tmps.getD t undef
  bsize : b.size = ops.size
  closed : ∀ i o, ops[i]? = some o → b.getD i false = true → ∀ e ∈ o.after, Region.binds md e = true → b.getD e.on false = true
  done : ∀ i o d, ops[i]? = some o → i ≠ f → b.getD i false = true → o.dst = some d → I i (a.tmps.getD d undef) w
/-- What each operation has to show. -/
def Owes (P : Program) (md : Region.Mode) (ops : Array Oper) (f : Nat) (Q : Exit → Act → World → Prop) (I : Nat → Value → World → Prop) (S : World → Prop) (R : World → World → Prop) (a0 : Act) (i : Nat) : Prop :=
  ∀ o, ops[i]? = some o → ∀ a w, S w → (∀ t, unset ops f t → a.tmps.getD t undef = a0.tmps.getD t undef) →
    (∀ j q d, ops[j]? = some q → waits md o j = true → q.dst = some d → I j (a.tmps.getD d undef) w) →
    ∀ K : Act → World → Prop, (∀ v w', I i v w' → R w w' → K (a.put o.dst v) w') → if Region.wanted o (yielded ops a.tmps) = true then Oper.wp P o a w K Q else K (a.put o.dst undef) w
theorem getD_set_self (b : Array Bool) (i : Nat) (h : i < b.size) : (b.setIfInBounds i true).getD i false = true := by
  rw [Array.getD_eq_getD_getElem?, Array.getElem?_setIfInBounds]; simp [h]
theorem getD_set_other (b : Array Bool) (i j : Nat) (h : i ≠ j) (z : Bool) : (b.setIfInBounds i true).getD j z = b.getD j z := by
  rw [Array.getD_eq_getD_getElem?, Array.getD_eq_getD_getElem?, Array.getElem?_setIfInBounds_ne h]
theorem getD_false_true {b : Array Bool} {i : Nat} (h : b.getD i true = false) : b.getD i false = false ∧ i < b.size := by
  rw [Array.getD_eq_getD_getElem?] at h ⊢
  by_cases hi : i < b.size
  · rw [Array.getElem?_eq_getElem hi] at h ⊢
    exact ⟨h, hi⟩
  · rw [Array.getElem?_eq_none (by omega)] at h
    cases h
theorem waits_of {o : Oper} {j : Nat} (h : waits md o j = true) : ∃ e ∈ o.after, Region.binds md e = true ∧ e.on = j := by
  obtain ⟨k, hk, he⟩ := Array.any_eq_true.1 h
  rw [Bool.and_eq_true, beq_iff_eq] at he
  exact ⟨_, Array.getElem_mem hk, he.1, he.2⟩
theorem waits_mk {o : Oper} {e : Edge} (he : e ∈ o.after) (hb : Region.binds md e = true) : waits md o e.on = true := by
  unfold waits
  rw [Array.any_eq_true]
  obtain ⟨k, hk, hek⟩ := Array.mem_iff_getElem.1 he
  exact ⟨k, hk, by rw [hek, hb]; simp⟩
def tally (b : Array Bool) : Nat := b.toList.countP id
theorem tally_set {b : Array Bool} {i : Nat} (h : b.getD i true = false) : tally (b.setIfInBounds i true) = tally b + 1 := by
  obtain ⟨hf, hi⟩ := getD_false_true h
  have hv : b.toList[i]'(by simpa using hi) = false := by
    rw [Array.getD_eq_getD_getElem?, Array.getElem?_eq_getElem hi] at hf
    simpa using hf
  unfold tally
  rw [Array.toList_setIfInBounds, List.countP_set (by simpa using hi), hv]
  simp
theorem tally_all {b : Array Bool} (h : tally b = b.size) (i : Nat) (hi : i < b.size) : b.getD i false = true := by
  unfold tally at h
  have := (List.countP_eq_length.1 (by rw [h, Array.length_toList])) (b.toList[i]'(by simpa using hi)) (List.getElem_mem _)
  rw [Array.getD_eq_getD_getElem?, Array.getElem?_eq_getElem hi]
  simpa using this
theorem flow_step {f n i : Nat} {I : Nat → Value → World → Prop} {S : World → Prop} {R : World → World → Prop} {a0 : Act} {b : Array Bool} {a : Act} {w : World} (hok : flowOk md ops f n = true) (hn : a0.tmps.size = n)
    (hI : ∀ j v w w', I j v w → R w w' → I j v w') (hS : ∀ w w', S w → R w w' → S w') (h : Flow md ops f I S a0 b a w) {o : Oper} (ho : ops[i]? = some o) (hif : i ≠ f) (hr : i ∈ Region.ready md ops b) {v : Value} {w' : World} (hv : I i v w') (hR : R w w') :
    Flow md ops f I S a0 (b.setIfInBounds i true) (a.put o.dst v) w' := by
  obtain ⟨hd1, hd2⟩ := flowOk_dst hok
  obtain ⟨hun, o', ho', hall⟩ := mem_ready.1 hr
  rw [ho] at ho'
  obtain rfl := Option.some.inj ho'
  obtain ⟨hbf, hbi⟩ := getD_false_true hun
  have hput : ∀ t, o.dst ≠ some t → (a.put o.dst v).tmps.getD t undef = a.tmps.getD t undef := by
    intro t ht
    cases hd : o.dst with
    | none => rfl
    | some d =>
      rw [hd] at ht
      simp only [Act.put]
      rw [Array.getD_eq_getD_getElem?, Array.getD_eq_getD_getElem?, Array.getElem?_setIfInBounds_ne (fun e => ht (by rw [e]))]
  refine { s := hS _ _ h.s hR, size := ?_, defers := ?_, old := fun t ht => ?_, bsize := by simpa using h.bsize, closed := ?_, done := ?_ }
  · cases o.dst <;> simp [Act.put, h.size]
  · cases o.dst <;> simp [Act.put, h.defers]
  · rw [hput t (ht i o ho hif)]; exact h.old t ht
  · intro k q hk hl e he hb
    have hne : ∀ j, b.getD j false = true → (b.setIfInBounds i true).getD j false = true := fun j hj => by
      by_cases hij : i = j
      · subst hij; exact getD_set_self b i hbi
      · rw [getD_set_other b i j hij]; exact hj
    by_cases hik : i = k
    · subst hik
      rw [ho] at hk
      obtain rfl := Option.some.inj hk
      exact hne _ (hall e he hb)
    · rw [getD_set_other b i k hik] at hl
      exact hne _ (h.closed k q hk hl e he hb)
  · intro k q d hk hkf hl hd
    by_cases hik : i = k
    · subst hik
      rw [ho] at hk
      obtain rfl := Option.some.inj hk
      have hlt := hd1 i o d ho hif hd
      rw [hd]
      have : ((a.put (some d) v).tmps.getD d undef) = v := by
        simp only [Act.put]
        rw [Array.getD_eq_getD_getElem?, Array.getElem?_setIfInBounds]
        simp [h.size, hn, hlt]
      rw [this]
      exact hv
    · rw [getD_set_other b i k hik] at hl
      rw [hput d (fun e => hik (hd2 i k o q d ho hk hif hkf e hd))]
      exact hI _ _ _ _ (h.done k q d hk hkf hl hd) hR
/-- The end: all but f are done. -/
def Ends (P : Program) (md : Region.Mode) (ops : Array Oper) (f : Nat) (Q : Exit → Act → World → Prop) (I : Nat → Value → World → Prop) (S : World → Prop) (a0 : Act) : Prop :=
  ∀ a w, S w → a.tmps.size = a0.tmps.size → a.defers = a0.defers → (∀ t, unset ops f t → a.tmps.getD t undef = a0.tmps.getD t undef) → (∀ i o d, ops[i]? = some o → i ≠ f → o.dst = some d → I i (a.tmps.getD d undef) w) →
    match ops[f]? with
    | none => Q .normal a w
    | some o => ∀ K : Act → World → Prop, (∀ a w, Q .normal a w → K a w) → if Region.wanted o (yielded ops a.tmps) = true then Oper.wp P o a w K Q else K (a.put o.dst undef) w
theorem ready_nil {b : Array Bool} (h : ∀ i, i < ops.size → b.getD i false = true) : Region.ready md ops b = [] := by
  apply List.eq_nil_iff_forall_not_mem.2
  intro i hi
  obtain ⟨hun, o, ho, _⟩ := mem_ready.1 hi
  obtain ⟨hf, hb⟩ := getD_false_true hun
  rw [h i (Array.getElem?_eq_some_iff.1 ho).1] at hf
  cases hf
theorem wpAny_end {n : Nat} {b : Array Bool} {a : Act} {w : World} (h : ∀ i, i < ops.size → b.getD i false = true) (hq : Q .normal a w) : wpAny P md ops Q n b a w := by
  have hr := ready_nil (md := md) h
  cases n with
  | zero => exact ⟨hr, hq⟩
  | succ n => exact ⟨fun _ => hq, fun i hi => (by rw [hr] at hi; cases hi)⟩
theorem flow_any {f n : Nat} {I : Nat → Value → World → Prop} {S : World → Prop} {R : World → World → Prop} {a0 : Act} (hok : flowOk md ops f n = true) (hn : a0.tmps.size = n)
    (hI : ∀ j v w w', I j v w → R w w' → I j v w') (hS : ∀ w w', S w → R w w' → S w') (owes : ∀ i, i < ops.size → i ≠ f → Owes P md ops f Q I S R a0 i) (ends : Ends P md ops f Q I S a0) :
    ∀ (m : Nat) (b : Array Bool) (a : Act) (w : World), Flow md ops f I S a0 b a w → (f < ops.size → b.getD f true = false) → tally b + m = ops.size → wpAny P md ops Q m b a w := by
  have haft := flowOk_after hok
  -- whatever is not all done has one that may come up
  have some_ready : ∀ (b : Array Bool), b.size = ops.size → ∀ i, i < ops.size → b.getD i false = false → Region.ready md ops b ≠ [] := by
    intro b hb i
    induction i using Nat.strongRecOn with
    | _ i ih =>
      intro hi hf
      by_cases hall : ∀ e ∈ (ops[i]'hi).after, Region.binds md e = true → b.getD e.on false = true
      · intro hr
        have hm : i ∈ Region.ready md ops b := mem_ready.2 ⟨by
          rw [Array.getD_eq_getD_getElem?, Array.getElem?_eq_getElem (by omega)] at hf ⊢; simpa using hf, ops[i], Array.getElem?_eq_getElem hi, hall⟩
        rw [hr] at hm; cases hm
      · simp only [Classical.not_forall] at hall
        obtain ⟨e, he, hbi, hne⟩ := hall
        have hlt := haft i ops[i] (Array.getElem?_eq_getElem hi) e he hbi
        exact ih e.on hlt (by omega) (by simpa using hne)
  have fin : ∀ (b : Array Bool) (a : Act) (w : World), Flow md ops f I S a0 b a w → (∀ i, i < ops.size → i ≠ f → b.getD i false = true) → match ops[f]? with
    | none => Q .normal a w
    | some o => ∀ K : Act → World → Prop, (∀ a w, Q .normal a w → K a w) → if Region.wanted o (yielded ops a.tmps) = true then Oper.wp P o a w K Q else K (a.put o.dst undef) w := fun b a w h hall =>
    ends a w h.s h.size h.defers h.old fun i o d hi hif hd => h.done i o d hi hif (hall i (Array.getElem?_eq_some_iff.1 hi).1 hif) hd
  intro m
  induction m with
  | zero =>
    intro b a w h hf ht
    have hall := tally_all (b := b) (by rw [h.bsize]; omega)
    rw [h.bsize] at hall
    have hnf : ¬ f < ops.size := fun hlt => by
      have h1 := hf hlt
      have h2 := hall f hlt
      rw [(getD_false_true h1).1] at h2; cases h2
    have := fin b a w h fun i hi _ => hall i hi
    rw [Array.getElem?_eq_none (by omega)] at this
    exact ⟨ready_nil hall, this⟩
  | succ m ih =>
    intro b a w h hf ht
    refine ⟨fun hr => ?_, fun i hi => ?_⟩
    · have hall : ∀ i, i < ops.size → b.getD i false = true := fun i hi => by
        cases hb : b.getD i false with
        | true => rfl
        | false => exact absurd hr (some_ready b h.bsize i hi hb)
      have hnf : ¬ f < ops.size := fun hlt => by
        have h1 := hf hlt
        have h2 := hall f hlt
        rw [(getD_false_true h1).1] at h2; cases h2
      have := fin b a w h fun i hi _ => hall i hi
      rw [Array.getElem?_eq_none (by omega)] at this
      exact this
    · obtain ⟨hun, o, ho, hall⟩ := mem_ready.1 hi
      have hilt : i < ops.size := (Array.getElem?_eq_some_iff.1 ho).1
      by_cases hif : i = f
      · subst hif
        have hlisted : ∀ k, k < ops.size → k ≠ i → b.getD k false = true := by
          have hc := hok
          unfold flowOk at hc
          rw [Bool.and_eq_true] at hc
          have hc2 := hc.2
          rw [show decide (i < ops.size) = true from by simpa using hilt] at hc2
          simp only [Bool.not_true, Bool.false_or] at hc2
          have := chain_listed (listed := b) (f := i) h.closed (fun o' ho' => by rw [ho] at ho'; obtain rfl := Option.some.inj ho'; exact hall) _ _ hc2 (fun j hj => by simp at hj; exact .inl hj)
          intro k hk hki
          exact this k (by simp [hk, hki])
        have hfin := fin b a w h hlisted
        rw [ho] at hfin
        refine wpOp_step ho fun K hK => hfin K fun a2 w2 hq => hK a2 w2 (wpAny_end (fun k hk => ?_) hq)
        by_cases hki : i = k
        · subst hki; exact getD_set_self b i (by rw [h.bsize]; exact hk)
        · rw [getD_set_other b i k hki]; exact hlisted k hk (Ne.symm hki)
      · refine wpOp_step ho fun K hK => owes i hilt hif o ho a w h.s h.old (fun j q d hj hw hd => ?_) K fun v w' hv hR => hK _ _ (ih _ _ _ (flow_step hok hn hI hS h ho hif hi hv hR) (fun hlt => ?_) ?_)
        · obtain ⟨e, he, hb, rfl⟩ := waits_of hw
          by_cases hjf : e.on = f
          · have h1 := hall e he hb
            rw [hjf] at h1
            have hlt : f < ops.size := by rw [← hjf]; exact (Array.getElem?_eq_some_iff.1 hj).1
            rw [(getD_false_true (hf hlt)).1] at h1; cases h1
          · exact h.done e.on q d hj hjf (hall e he hb) hd
        · rw [getD_set_other b i f hif]; exact hf hlt
        · rw [tally_set hun]; omega
/-- A region that draws its order: what each operation owes, and what follows. -/
theorem region_flow (f n : Nat) (I : Nat → Value → World → Prop) (S : World → Prop) (R : World → World → Prop) {id : Nat} {a : Act} {w : World} (hm : P.follows .mixedOrders = true) (hok : flowOk .any ops f n = true) (hn : a.tmps.size = n)
    (hI : ∀ j v w w', I j v w → R w w' → I j v w') (hS : ∀ w w', S w → R w w' → S w') (hs : S w.drew) (owes : ∀ i, i < ops.size → i ≠ f → Owes P .any ops f Q I S R a i) (ends : Ends P .any ops f Q I S a) : (Code.region id ops true).wp P Q a w := by
  refine wp_region_any hm (flow_any hok hn hI hS owes ends ops.size _ a _ ?_ ?_ ?_)
  · refine { s := hs, size := rfl, defers := rfl, old := fun _ _ => rfl, bsize := by simp, closed := ?_, done := ?_ }
    · intro i o _ hl
      rw [Array.getD_eq_getD_getElem?] at hl
      by_cases hi : i < ops.size
      · simp [Array.getElem?_replicate, hi] at hl
      · simp [Array.getElem?_replicate, hi] at hl
    · intro i o d _ _ hl
      rw [Array.getD_eq_getD_getElem?] at hl
      by_cases hi : i < ops.size
      · simp [Array.getElem?_replicate, hi] at hl
      · simp [Array.getElem?_replicate, hi] at hl
  · intro hlt
    rw [Array.getD_eq_getD_getElem?]
    simp [Array.getElem?_replicate, hlt]
  · have : tally (Array.replicate ops.size false) = 0 := by
      unfold tally
      rw [Array.toList_replicate, List.countP_eq_zero]
      intro a ha
      rw [List.mem_replicate] at ha
      simp [ha.2]
    omega
end
end Go.Proofs.Ytlbnakoaflladaa
