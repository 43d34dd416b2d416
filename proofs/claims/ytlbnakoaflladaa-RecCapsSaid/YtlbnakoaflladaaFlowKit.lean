/-
  For regions that draw their order: what an operation yields, said so that it stays; the operations one by one.
-/
import Derived.Test.YtlbnakoaflladaaFlow
import Derived.Test.YtlbnakoaflladaaRd
namespace Go.Proofs.Ytlbnakoaflladaa
open Go.RowKit
set_option linter.unusedVariables false
set_option linter.unusedSimpArgs false
/-- What a value is in a world; it stays so when memory is made. -/
structure SP where
  p : Value → World → Prop
  st : ∀ v w w', p v w → Below w.heap.size w w' → p v w'
def eqV (x : Value) : SP := ⟨fun v _ => v = x, fun _ _ _ h _ => h⟩
def anyV : SP := ⟨fun _ _ => True, fun _ _ _ h _ => h⟩
/-- A slice that is read so. -/
def rdV (L : List Value) : SP := ⟨fun v w => ∃ a c, v = .slice a L.length c ∧ Rd w a L ∧ L.length ≤ c ∧ c ≤ maxLen, fun _ _ _ ⟨a, c, h1, h2, h3, h4⟩ hb => ⟨a, c, h1, h2.below hb, h3, h4⟩⟩
/-- The same, made since there were lo blocks. -/
def rdFV (lo : Nat) (L : List Value) : SP := ⟨fun v w => ∃ a c, v = .slice a L.length c ∧ Rd w a L ∧ L.length ≤ c ∧ c ≤ maxLen ∧ ∀ x, a = some x → lo ≤ x.block, fun _ _ _ ⟨a, c, h1, h2, h3, h4, h5⟩ hb => ⟨a, c, h1, h2.below hb, h3, h4, h5⟩⟩
theorem out_rdFV {w : World} {base lo : Nat} {T : TypeId} {L : List Value} {v : Value} (h : w.ownsRow base T 1 v L.length L) (hlo : lo ≤ base) : (rdFV lo L).p v w := by
  obtain ⟨a, c, h1, h2, h3, h4⟩ := Rd.own h
  refine ⟨a, c, h1, h2, h3, h4, fun x hx => ?_⟩
  subst hx
  exact Nat.le_trans hlo (h.lt x.block (by rw [h1]; rfl)).1
theorem Rd.set {w : World} {a : Option Addr} {L : List Value} (h : Rd w a L) (p : Addr) (v : Value) (hne : ∀ x, a = some x → p.block < x.block) : Rd (w.setCell p v) a L := by
  rcases h with h | ⟨b, off, rfl, h2, h3⟩
  · exact .inl h
  · have hb : b ≠ p.block := fun e => by have h9 : p.block < b := hne _ rfl; omega
    refine .inr ⟨b, off, rfl, by simpa [World.setCell] using h2, fun i u hu => ?_⟩
    rw [← h3 i u hu]
    exact World.cell?_of_block (Below.heap_setCell _ _ _ _ hb)
theorem Rd.set4 {w : World} {a : Option Addr} {L : List Value} (h : Rd w a L) (r : Nat) (v0 v1 v2 v3 : Value) (hne : ∀ x, a = some x → r < x.block) : Rd ((((w.setCell ⟨r, 0, none⟩ v0).setCell ⟨r, 1, none⟩ v1).setCell ⟨r, 2, none⟩ v2).setCell ⟨r, 3, none⟩ v3) a L :=
  (((h.set _ _ hne).set _ _ hne).set _ _ hne).set _ _ hne
theorem add0 (x : Addr) : x.add 0 = x := by obtain ⟨b, o, s⟩ := x; cases s <;> simp [Addr.add]
/-- A new slice of as many cells as it has elements. -/
def lstV (L : List Value) : SP := ⟨fun v w => ∃ a, v = .slice a L.length L.length ∧ Rd w a L, fun _ _ _ ⟨a, h1, h2⟩ hb => ⟨a, h1, h2.below hb⟩⟩
/-- A value made of another one's. -/
def exV {α : Type} (f : α → Value) (q : α → World → Prop) (hq : ∀ x w w', q x w → Below w.heap.size w w' → q x w') : SP := ⟨fun v w => ∃ x, v = f x ∧ q x w, fun _ _ _ ⟨x, h1, h2⟩ hb => ⟨x, h1, hq _ _ _ h2 hb⟩⟩
/-- A new slice of three slices, the middle one new, too. -/
def lst3V (x y : Value) (L : List Value) : SP := ⟨fun v w => ∃ a a5, v = .slice a 3 3 ∧ Rd w a [x, .slice a5 L.length L.length, y] ∧ Rd w a5 L, fun _ _ _ ⟨a, a5, h1, h2, h3⟩ hb => ⟨a, a5, h1, h2.below hb, h3.below hb⟩⟩
theorem Rd.made (w : World) (cs : Array Value) (T : TypeId) : Rd (w.alloc (.cells cs T)) (some ⟨w.heap.size, 0, none⟩) cs.toList := by
  refine .inr ⟨w.heap.size, 0, rfl, by simp, fun i u hu => ?_⟩
  rw [Go.Joins.cell_of_block (heap_alloc_new w _)]
  simpa using hu
theorem below_made (w : World) (o : Obj) : Below w.heap.size w (w.alloc o) := (Below.refl _ _).alloc (Nat.le_refl _) _
def unsetB (f t : Nat) : List Oper → Nat → Bool
  | [], _ => true
  | o :: r, i => (i == f || o.dst != some t) && unsetB f t r (i + 1)
theorem unset_of' {f t : Nat} : ∀ (l : List Oper) (i : Nat), unsetB f t l i = true → ∀ j o, l[j]? = some o → i + j ≠ f → o.dst ≠ some t := by
  intro l
  induction l with
  | nil => intro i _ j o h; simp at h
  | cons p r ih =>
    intro i h j o hj hf
    unfold unsetB at h
    rw [Bool.and_eq_true] at h
    cases j with
    | zero =>
      have : p = o := by simpa using hj
      subst this
      have h1 := h.1
      rw [Bool.or_eq_true] at h1
      rcases h1 with h1 | h1
      · exact absurd (eq_of_beq h1) (by simpa using hf)
      · simpa using h1
    | succ j => exact ih (i + 1) h.2 j o (by simpa using hj) (by omega)
theorem unset_of {ops : Array Oper} {f t : Nat} (h : unsetB f t ops.toList 0 = true) : unset ops f t := fun i o hi hf => unset_of' ops.toList 0 h i o (by simpa using hi) (by omega)
section
variable {P : Program} {ops : Array Oper} {Q : Exit → Act → World → Prop} {md : Region.Mode}
theorem act_lit {a : Act} {n : Nat} {d : List Deferred} (h : a.tmps.size = n) (hd : a.defers = d) : a = { tmps := ((List.range n).map fun t => a.tmps[t]?.getD undef).toArray, defers := d } := by
  obtain ⟨t, e⟩ := a
  dsimp only at h hd
  subst hd
  subst h
  congr 1
  apply Array.ext'
  simp only []
  apply List.ext_getElem (by simp)
  intro i h1 h2
  simp only [List.getElem_map, List.getElem_range]
  rw [Array.getElem?_eq_getElem (by simpa using h1)]
  simp
def kit (l : List SP) (i : Nat) (v : Value) (w : World) : Prop := (l.getD i anyV).p v w
/-- What operations from k on owe. -/
def OwesAll (P : Program) (ops : Array Oper) (f : Nat) (Q : Exit → Act → World → Prop) (l : List SP) (w0 : World) (a0 : Act) (k n : Nat) : Prop :=
  ∀ i, k ≤ i → i < n → i ≠ f → Owes P .any ops f Q (kit l) (fun w => Below w0.heap.size w0 w) (fun w w' => Below w.heap.size w w') a0 i
theorem OwesAll.nil {f n : Nat} {l : List SP} {w0 : World} {a0 : Act} : OwesAll P ops f Q l w0 a0 n n := fun i h1 h2 => absurd h2 (Nat.not_lt.2 h1)
theorem OwesAll.skip {f n : Nat} {l : List SP} {w0 : World} {a0 : Act} (h : OwesAll P ops f Q l w0 a0 (f + 1) n) : OwesAll P ops f Q l w0 a0 f n := fun i h1 h2 h3 => h i (by omega) h2 h3
theorem OwesAll.cons {f k n : Nat} {l : List SP} {w0 : World} {a0 : Act} (h0 : Owes P .any ops f Q (kit l) (fun w => Below w0.heap.size w0 w) (fun w w' => Below w.heap.size w w') a0 k) (h : OwesAll P ops f Q l w0 a0 (k + 1) n) : OwesAll P ops f Q l w0 a0 k n := fun i h1 h2 h3 => by
  by_cases hk : i = k
  · rw [hk]; exact h0
  · exact h i (by omega) h2 h3
/-- A region that draws its order: the operations one by one, then the end. -/
theorem region_kit (f n : Nat) (l : List SP) {id : Nat} {a : Act} {w : World} (hm : P.follows .mixedOrders = true) (hok : flowOk .any ops f n = true) (hn : a.tmps.size = n)
    (owes : OwesAll P ops f Q l w a 0 ops.size) (ends : Ends P .any ops f Q (kit l) (fun w' => Below w.heap.size w w') a) : (Code.region id ops true).wp P Q a w :=
  region_flow f n (kit l) (fun w' => Below w.heap.size w w') (fun w w' => Below w.heap.size w w') hm hok hn (fun j v w1 w2 h hb => (l.getD j anyV).st v w1 w2 h hb) (fun w1 w2 h hb => chain h hb) ((Below.refl _ _).drew)
    (fun i hi hf => owes i (Nat.zero_le _) hi hf) ends
/-- A slot that was written by an operation that is waited for. -/
theorem dep_at {l : List SP} {o q : Oper} {a : Act} {w : World} {d : Nat} (h : ∀ j q d, ops[j]? = some q → waits md o j = true → q.dst = some d → kit l j (a.tmps.getD d undef) w) (j : Nat) (hq : ops[j]? = some q) (hd : q.dst = some d) (hw : waits md o j = true) : (l.getD j anyV).p (a.tmps.getD d undef) w := h j q d hq hw hd
end
end Go.Proofs.Ytlbnakoaflladaa
