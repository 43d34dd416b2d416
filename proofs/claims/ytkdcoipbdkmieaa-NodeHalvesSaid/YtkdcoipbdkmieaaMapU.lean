/-
  A map whose keys are unsigned numbers and whose values are texts, known entry by entry, in the order in which they were put first.
-/
import Derived.Test.YtkdcoipbdkmieaaSup
import Derived.MapKept
namespace Go.Proofs.Ytkdcoipbdkmieaa
open Go.RowKit
set_option linter.unusedVariables false
/-- What a key has: the first entry's value. -/
def getM : List (Int × ByteArray) → Int → Option ByteArray
  | [], _ => none
  | p :: L, k => if p.1 = k then some p.2 else getM L k
/-- A value put at a key. -/
def setM : List (Int × ByteArray) → Int → ByteArray → List (Int × ByteArray)
  | [], k, v => [(k, v)]
  | p :: L, k, v => if p.1 = k then (k, v) :: L else p :: setM L k v
theorem getM_set (L : List (Int × ByteArray)) (k : Int) (v : ByteArray) (k' : Int) : getM (setM L k v) k' = if k' = k then some v else getM L k' := by
  induction L with
  | nil =>
    simp only [setM, getM]
    by_cases h : k = k'
    · rw [if_pos h, if_pos h.symm]
    · rw [if_neg h, if_neg (Ne.symm h)]
  | cons p L ih =>
    simp only [setM]
    by_cases h : p.1 = k
    · rw [if_pos h]
      simp only [getM]
      by_cases h2 : k = k'
      · rw [if_pos h2, if_pos h2.symm]
      · rw [if_neg h2, if_neg (Ne.symm h2), if_neg (by rw [h]; exact h2)]
    · rw [if_neg h]
      simp only [getM, ih]
      by_cases h2 : p.1 = k'
      · rw [if_pos h2, if_neg (by rw [← h2]; exact h), if_pos h2]
      · rw [if_neg h2, if_neg h2]
theorem setM_len (L : List (Int × ByteArray)) (k : Int) (v : ByteArray) : (setM L k v).length = L.length + (if (getM L k).isSome then 0 else 1) := by
  induction L with
  | nil => rfl
  | cons p L ih =>
    by_cases h : p.1 = k
    · simp [setM, getM, h]
    · simp only [setM, getM, h, if_false, List.length_cons, ih]; omega
theorem getM_append (A B : List (Int × ByteArray)) (k : Int) : getM (A ++ B) k = match getM A k with | some v => some v | none => getM B k := by
  induction A with
  | nil => rfl
  | cons p A ih =>
    simp only [List.cons_append, getM]
    by_cases h : p.1 = k
    · rw [if_pos h, if_pos h]
    · rw [if_neg h, if_neg h, ih]
theorem getM_none (A : List (Int × ByteArray)) (k : Int) (h : ∀ p ∈ A, p.1 ≠ k) : getM A k = none := by
  induction A with
  | nil => rfl
  | cons p A ih => simp only [getM]; rw [if_neg (h p (by simp)), ih fun q hq => h q (by simp [hq])]
def EntU (L : List (Int × ByteArray)) (l : List MapEntry) : Prop := l.map (fun e => (e.key, e.val)) = L.map (fun p => (Value.int .u64 p.1, Value.string p.2))
/-- Block m is a map of these entries. -/
def MapU (w : World) (m : Nat) (L : List (Int × ByteArray)) : Prop := ∃ es clock, w.heap[m]? = some (.map es clock) ∧ EntU L es.toList
theorem MapU.lt {w : World} {m : Nat} {L : List (Int × ByteArray)} (h : MapU w m L) : m < w.heap.size := by
  obtain ⟨es, c, hb, _⟩ := h
  exact (Array.getElem?_eq_some_iff.1 hb).1
theorem MapU.kept {w w' : World} {m : Nat} {L : List (Int × ByteArray)} (h : MapU w m L) (e : w'.heap[m]? = w.heap[m]?) : MapU w' m L := by
  obtain ⟨es, c, hb, he⟩ := h
  exact ⟨es, c, e.trans hb, he⟩
theorem MapU.below {w w' : World} {m : Nat} {L : List (Int × ByteArray)} (h : MapU w m L) (hb : Below w.heap.size w w') : MapU w' m L := h.kept (hb.block _ h.lt)
def dU : TypeDesc := .int .u64
theorem same_U (a b : Int) : Instr.sameNow dU (.int .u64 a) (.int .u64 b) = some (a == b) := by simp [Instr.sameNow, dU]
theorem findU (n : Int) : ∀ (l : List MapEntry) (L : List (Int × ByteArray)) (i : Nat), EntU L l →
    (Instr.findNow dU (.int .u64 n) l i = some none ∧ getM L n = none ∧ ∀ v, setM L n v = L ++ [(n, v)]) ∨ ∃ j v, Instr.findNow dU (.int .u64 n) l i = some (some (i + j, .string v)) ∧ j < l.length ∧ getM L n = some v ∧ L.map (·.1) = L.map (·.1) ∧ ∀ v', setM L n v' = L.set j (n, v')
  | [], L, _, h => by
    cases L with
    | nil => exact .inl ⟨rfl, rfl, fun _ => rfl⟩
    | cons p L => simp [EntU] at h
  | e :: l, [], _, h => by simp [EntU] at h
  | e :: l, p :: L, i, h => by
    simp only [EntU, List.map_cons, List.cons.injEq, Prod.mk.injEq] at h
    by_cases hp : p.1 = n
    · refine .inr ⟨0, p.2, ?_, by simp, ?_, rfl, ?_⟩
      · have hs : Instr.sameNow dU (.int .u64 n) e.key = some true := by rw [h.1.1, same_U, hp]; simp
        simp only [Instr.findNow, hs, h.1.2, Nat.add_zero]
      · simp only [getM]; rw [if_pos hp]
      · intro v'; simp only [setM]; rw [if_pos hp]; rfl
    · have hs : Instr.sameNow dU (.int .u64 n) e.key = some false := by
        rw [h.1.1, same_U]
        congr 1
        rw [beq_eq_false_iff_ne]
        exact Ne.symm hp
      rcases findU n l L (i + 1) h.2 with ⟨h1, h2, h3⟩ | ⟨j, v, h1, h2, h3, _, h4⟩
      · refine .inl ⟨by simp only [Instr.findNow, hs]; exact h1, by simp only [getM]; rw [if_neg hp]; exact h2, fun v => ?_⟩
        simp only [setM]; rw [if_neg hp, h3]; rfl
      · refine .inr ⟨j + 1, v, by simp only [Instr.findNow, hs]; rw [h1]; congr 3; omega, by simpa using h2, by simp only [getM]; rw [if_neg hp]; exact h3, rfl, fun v' => ?_⟩
        simp only [setM]; rw [if_neg hp, h4]; rfl
section
variable {P : Program} {w : World} {m : Nat} {L : List (Int × ByteArray)} {t k e : TypeId} (ht : P.underlying t = some (.map k e)) (hk : P.underlying k = some (.int .u64))
include ht hk
theorem lookupU (h : MapU w m L) (n : Int) (hz : (zeroValue e).run P w = .ok (.string ByteArray.empty) w) (ok : Bool) :
    (Instr.lookup t (.map (some m)) (.int .u64 n) ok).run P w = .ok (if ok then .tuple #[.string ((getM L n).getD ByteArray.empty), .bool (getM L n).isSome] else .string ((getM L n).getD ByteArray.empty)) w := by
  obtain ⟨es, c, hb, he⟩ := h
  have h1 := MapKept.run_getObj_map (P := P) hb
  have h2 := MapKept.run_checkKey (P := P) (w := w) hk (k := .int .u64 n) (by first | rfl | trivial | exact ⟨_, rfl⟩) es.isEmpty 9999
  rcases findU n es.toList L 0 he with ⟨f1, f2, _⟩ | ⟨j, v, f1, _, f2, _, _⟩
  · have h3 := MapKept.run_findKey (P := P) (w := w) hk f1
    rw [f2]
    cases ok <;> simp [Instr.lookup, run_underlying ht, h1, h2, h3, hz]
  · have h3 := MapKept.run_findKey (P := P) (w := w) hk f1
    rw [f2]
    cases ok <;> simp [Instr.lookup, run_underlying ht, h1, h2, h3]
theorem updateU (h : MapU w m L) (n : Int) (v : ByteArray) :
    ∃ o, (Instr.mapUpdate t (.map (some m)) (.int .u64 n) (.string v)).run P w = .ok () { w with heap := w.heap.setIfInBounds m o } ∧ MapU { w with heap := w.heap.setIfInBounds m o } m (setM L n v) := by
  obtain ⟨es, c, hb, he⟩ := h
  have h1 := MapKept.run_getObj_map (P := P) hb
  have h2 := MapKept.run_checkKey (P := P) (w := w) hk (k := .int .u64 n) (by first | rfl | trivial | exact ⟨_, rfl⟩) false 9999
  rcases findU n es.toList L 0 he with ⟨f1, f2, f3⟩ | ⟨j, u, f1, fj, f2, _, f3⟩
  · have h3 := MapKept.run_findKey (P := P) (w := w) hk f1
    have h4 := MapKept.run_setObj_map (P := P) (.map (es.push { key := .int .u64 n, val := .string v, born := c }) (c + 1)) hb
    refine ⟨_, by simp [Instr.mapUpdate, run_underlying ht, h1, h2, h3, h4]; rfl, ?_⟩
    refine ⟨_, _, (MapKept.heap_set hb).1, ?_⟩
    unfold EntU at *
    rw [f3, Array.toList_push, List.map_append, he, List.map_append]
    rfl
  · have h3 := MapKept.run_findKey (P := P) (w := w) hk f1
    rw [Nat.zero_add] at h3
    have hke : ∀ e, es[j]? = some e → e.key = .int .u64 n := by
      intro e hej
      have hl : L.length = es.toList.length := by have := congrArg List.length he; simpa using this.symm
      have h5 := f3 v
      have e1 : (es.toList.map (fun e => (e.key, e.val)))[j]? = some (e.key, e.val) := by rw [List.getElem?_map, Array.getElem?_toList, hej]; rfl
      rw [he, List.getElem?_map] at e1
      have hjL : j < L.length := by rw [hl]; exact fj
      rw [List.getElem?_eq_getElem hjL] at e1
      simp only [Option.map_some, Option.some.injEq, Prod.mk.injEq] at e1
      have hn : L[j].1 = n := by
        have : ∀ (l : List MapEntry) (L : List (Int × ByteArray)) (i j : Nat) (x : Value), EntU L l → Instr.findNow dU (.int .u64 n) l i = some (some (i + j, x)) → ∀ h : j < L.length, L[j].1 = n := by
          intro l
          induction l with
          | nil => intro L i j x _ hf; simp [Instr.findNow] at hf
          | cons a l ih =>
            intro L i j x hE hf hj
            cases L with
            | nil => cases hj
            | cons p L =>
              simp only [EntU, List.map_cons, List.cons.injEq, Prod.mk.injEq] at hE
              simp only [Instr.findNow] at hf
              rw [hE.1.1, same_U] at hf
              by_cases hp : n = p.1
              · simp [hp] at hf
                obtain rfl : j = 0 := by omega
                exact hp.symm
              · rw [show (n == p.1) = false from by simpa using hp] at hf
                simp only at hf
                cases j with
                | zero =>
                  exfalso
                  have hgt : ∀ (l : List MapEntry) (i : Nat) (r : Nat) (x : Value), Instr.findNow dU (.int .u64 n) l i = some (some (r, x)) → i ≤ r := by
                    intro l
                    induction l with
                    | nil => intro i r x h; simp [Instr.findNow] at h
                    | cons b l ih =>
                      intro i r x h
                      simp only [Instr.findNow] at h
                      split at h
                      · simp at h; omega
                      · have := ih _ _ _ h; omega
                      · cases h
                  have := hgt l (i + 1) (i + 0) x hf
                  omega
                | succ j => exact ih L (i + 1) j x hE.2 (by rw [show i + 1 + j = i + (j + 1) from by omega]; exact hf) (by simpa using hj)
        exact this es.toList L 0 j _ he f1 hjL
      rw [← e1.1, hn]
    have h4 := MapKept.run_setObj_map (P := P) (.map (es.modify j fun e => { e with key := .int .u64 n, val := .string v }) c) hb
    have h6 : (Instr.keyThatStays (((es[j]?).map (·.key)).getD (.int .u64 n)) (.int .u64 n)).run P w = .ok (.int .u64 n) w := by
      have : ((es[j]?).map (·.key)).getD (.int .u64 n) = .int .u64 n := by
        cases hq : es[j]? with
        | none => rfl
        | some e => simp [hke e hq]
      rw [this]
      exact MapKept.run_keyThatStays (d := dU) (by first | rfl | trivial | exact ⟨_, rfl⟩)
    refine ⟨_, by simp [Instr.mapUpdate, run_underlying ht, h1, h2, h3, h6, h4]; rfl, ?_⟩
    refine ⟨_, _, (MapKept.heap_set hb).1, ?_⟩
    unfold EntU at *
    rw [f3 v, List.map_set, ← he]
    apply List.ext_getElem?
    intro i
    rw [List.getElem?_map, Array.getElem?_toList, Array.getElem?_modify, List.getElem?_set]
    by_cases hij : j = i
    · subst hij
      rw [if_pos rfl, if_pos rfl, if_pos (by simpa using fj)]
      have : j < es.size := by simpa using fj
      rw [Array.getElem?_eq_getElem this]
      rfl
    · rw [if_neg hij, if_neg hij, List.getElem?_map, Array.getElem?_toList]
omit hk in
theorem lenU (h : MapU w m L) (ty : TypeId) : (Builtin.len_ #[t] ty #[.map (some m)]).run P w = .ok (.int .i64 (L.length : Int)) w := by
  obtain ⟨es, c, hb, he⟩ := h
  have h1 := MapKept.run_getObj_map (P := P) hb
  have hl : es.size = L.length := by have := congrArg List.length he; simpa using this
  simp [Builtin.len_, run_underlying ht, h1, goInt, hl]
/-- The same, the world by its name. -/
theorem updateB (h : MapU w m L) (n : Int) (v : ByteArray) :
    ∃ w', (Instr.mapUpdate t (.map (some m)) (.int .u64 n) (.string v)).run P w = .ok () w' ∧ MapU w' m (setM L n v) ∧ Below m w w' ∧ w'.heap.size = w.heap.size := by
  obtain ⟨o, h1, h2⟩ := updateU ht hk h n v
  obtain ⟨es, c, hb, _⟩ := h
  refine ⟨_, h1, h2, ⟨rfl, rfl, rfl, by simp, fun k hk => (MapKept.heap_set hb).2 k (Nat.ne_of_lt hk)⟩, by simp⟩
end
end Go.Proofs.Ytkdcoipbdkmieaa
