/-
  A map whose keys are ints, known entry by entry, in the order in which they were put; a row of ints of the call's own that grows by one.
-/
import Derived.Test.YtbjmbndeaobbeaaDoorFrm
import Derived.MapKept
import Derived.Laws.AppendOwn
namespace Go.Proofs.YtbjmbndeaobbeaaDoor
open Go.RowKit
set_option linter.unusedVariables false
/-- The entries. -/
def Ents (L : List (Nat × Value)) (es : Array MapEntry) : Prop := es.toList.map (fun e => (e.key, e.val)) = L.map (fun p => (Value.int .i64 (p.1 : Int), p.2))
/-- Block m is a map of these entries. -/
def MapI (w : World) (m : Nat) (L : List (Nat × Value)) : Prop := ∃ es clock, w.heap[m]? = some (.map es clock) ∧ Ents L es
theorem MapI.lt {w : World} {m : Nat} {L : List (Nat × Value)} (h : MapI w m L) : m < w.heap.size := by
  obtain ⟨es, c, hb, _⟩ := h
  exact (Array.getElem?_eq_some_iff.1 hb).1
theorem MapI.kept {w w' : World} {m : Nat} {L : List (Nat × Value)} (h : MapI w m L) (e : w'.heap[m]? = w.heap[m]?) : MapI w' m L := by
  obtain ⟨es, c, hb, he⟩ := h
  exact ⟨es, c, e.trans hb, he⟩
def d64 : TypeDesc := .int .i64
theorem findNow_no (n : Nat) : ∀ (l : List MapEntry) (L : List (Nat × Value)) (i : Nat), l.map (fun e => (e.key, e.val)) = L.map (fun p => (Value.int .i64 (p.1 : Int), p.2)) → (∀ p ∈ L, p.1 ≠ n) → Instr.findNow d64 (.int .i64 (n : Int)) l i = some none
  | [], _, _, _, _ => rfl
  | e :: l, [], _, h, _ => by simp at h
  | e :: l, p :: L, i, h, hn => by
    simp only [List.map_cons, List.cons.injEq, Prod.mk.injEq] at h
    have hne : p.1 ≠ n := hn p (List.mem_cons_self ..)
    have hs : Instr.sameNow d64 (.int .i64 (n : Int)) e.key = some false := by
      rw [h.1.1]
      simp only [Instr.sameNow, d64, if_true]
      congr 1
      rw [beq_eq_false_iff_ne]
      intro hc
      exact hne (by omega)
    simp only [Instr.findNow, hs]
    exact findNow_no n l L (i + 1) h.2 fun q hq => hn q (List.mem_cons_of_mem _ hq)
theorem findNow_yes (n : Nat) (v : Value) : ∀ (l : List MapEntry) (L : List (Nat × Value)) (i : Nat), l.map (fun e => (e.key, e.val)) = L.map (fun p => (Value.int .i64 (p.1 : Int), p.2)) → (L.map (·.1)).Nodup → (n, v) ∈ L → ∃ j, Instr.findNow d64 (.int .i64 (n : Int)) l i = some (some (j, v))
  | [], L, _, h, _, hm => by
    cases L with
    | nil => cases hm
    | cons p L => simp at h
  | e :: l, [], _, h, _, hm => by cases hm
  | e :: l, p :: L, i, h, hd, hm => by
    simp only [List.map_cons, List.cons.injEq, Prod.mk.injEq] at h
    simp only [List.map_cons, List.nodup_cons] at hd
    by_cases hp : p.1 = n
    · have hv : p.2 = v := by
        rcases List.mem_cons.1 hm with e1 | e1
        · rw [← e1]
        · exact absurd (List.mem_map.2 ⟨(n, v), e1, rfl⟩ : n ∈ L.map (·.1)) (hp ▸ hd.1)
      refine ⟨i, ?_⟩
      have hs : Instr.sameNow d64 (.int .i64 (n : Int)) e.key = some true := by
        rw [h.1.1, hp]
        simp [Instr.sameNow, d64]
      simp only [Instr.findNow, hs, h.1.2, hv]
    · have hs : Instr.sameNow d64 (.int .i64 (n : Int)) e.key = some false := by
        rw [h.1.1]
        simp only [Instr.sameNow, d64, if_true]
        congr 1
        rw [beq_eq_false_iff_ne]
        intro hc
        exact hp (by omega)
      obtain ⟨j, hj⟩ := findNow_yes n v l L (i + 1) h.2 hd.2 (by
        rcases List.mem_cons.1 hm with e1 | e1
        · exact absurd (by rw [← e1]) hp
        · exact e1)
      exact ⟨j, by simp only [Instr.findNow, hs]; exact hj⟩
section
variable {P : Program} {w : World} {m : Nat} {L : List (Nat × Value)} {t k e : TypeId} (ht : P.underlying t = some (.map k e)) (hk : P.underlying k = some (.int .i64))
include ht hk
theorem lookup_no (h : MapI w m L) (n : Nat) (hn : ∀ p ∈ L, p.1 ≠ n) (z : Value) (hz : (zeroValue e).run P w = .ok z w) (ok : Bool) :
    (Instr.lookup t (.map (some m)) (.int .i64 (n : Int)) ok).run P w = .ok (if ok then .tuple #[z, .bool false] else z) w := by
  obtain ⟨es, c, hb, he⟩ := h
  have h1 := MapKept.run_getObj_map (P := P) hb
  have h2 := MapKept.run_checkKey (P := P) (w := w) hk (k := .int .i64 (n : Int)) (by first | rfl | trivial | exact ⟨_, rfl⟩) es.isEmpty 9999
  have h3 := MapKept.run_findKey (P := P) (w := w) hk (findNow_no n es.toList L 0 he hn)
  cases ok <;> simp [Instr.lookup, run_underlying ht, h1, h2, h3, hz]
theorem lookup_yes (h : MapI w m L) (hd : (L.map (·.1)).Nodup) (n : Nat) (v : Value) (hm : (n, v) ∈ L) (ok : Bool) :
    (Instr.lookup t (.map (some m)) (.int .i64 (n : Int)) ok).run P w = .ok (if ok then .tuple #[v, .bool true] else v) w := by
  obtain ⟨es, c, hb, he⟩ := h
  have h1 := MapKept.run_getObj_map (P := P) hb
  have h2 := MapKept.run_checkKey (P := P) (w := w) hk (k := .int .i64 (n : Int)) (by first | rfl | trivial | exact ⟨_, rfl⟩) es.isEmpty 9999
  obtain ⟨j, hj⟩ := findNow_yes n v es.toList L 0 he hd hm
  have h3 := MapKept.run_findKey (P := P) (w := w) hk hj
  cases ok <;> simp [Instr.lookup, run_underlying ht, h1, h2, h3]
theorem update_new (h : MapI w m L) (n : Nat) (hn : ∀ p ∈ L, p.1 ≠ n) (v : Value) :
    ∃ o, (Instr.mapUpdate t (.map (some m)) (.int .i64 (n : Int)) v).run P w = .ok () { w with heap := w.heap.setIfInBounds m o } ∧ MapI { w with heap := w.heap.setIfInBounds m o } m (L ++ [(n, v)]) := by
  obtain ⟨es, c, hb, he⟩ := h
  have h1 := MapKept.run_getObj_map (P := P) hb
  have h2 := MapKept.run_checkKey (P := P) (w := w) hk (k := .int .i64 (n : Int)) (by first | rfl | trivial | exact ⟨_, rfl⟩) false 9999
  have h3 := MapKept.run_findKey (P := P) (w := w) hk (findNow_no n es.toList L 0 he hn)
  have h4 := MapKept.run_setObj_map (P := P) (.map (es.push { key := .int .i64 (n : Int), val := v, born := c }) (c + 1)) hb
  refine ⟨_, by simp [Instr.mapUpdate, run_underlying ht, h1, h2, h3, h4]; rfl, ?_⟩
  refine ⟨_, _, (MapKept.heap_set hb).1, ?_⟩
  unfold Ents at *
  rw [Array.toList_push, List.map_append, he, List.map_append]
  rfl
omit hk in
theorem clear_all (h : MapI w m L) (ty : TypeId) :
    ∃ o, (Builtin.clear_ #[t] ty #[.map (some m)]).run P w = .ok (.tuple #[]) { w with heap := w.heap.setIfInBounds m o } ∧ MapI { w with heap := w.heap.setIfInBounds m o } m [] := by
  obtain ⟨es, c, hb, he⟩ := h
  have h1 := MapKept.run_getObj_map (P := P) hb
  have h4 := MapKept.run_setObj_map (P := P) (.map #[] c) hb
  refine ⟨_, by simp [Builtin.clear_, run_underlying ht, h1, h4]; rfl, ?_⟩
  exact ⟨_, _, (MapKept.heap_set hb).1, rfl⟩
end
/-- A row of ints of the call's own that grows by one. -/
theorem append_one (P : Program) (w : World) (t ty e : TypeId) (i : TypeInfo) (z : Value) (ht : P.underlying t = some (.slice e)) (hi : P.info? e = some i) (hz : i.zero = some z)
    (hsize : i.size = 1) (hby : i.bytes = 8) (hzs : z.cells.size = 1)
    (v : Value) (n : Nat) (xs : List Value) (hown : w.ownsRow 0 e 1 v n xs) (b : Nat) (u : Value) (hu : w.cell? ⟨b, 0, none⟩ = some u) (h1 : u.oneCell' = true) (hn : n ≤ 100000) :
    ∃ v' w' k, (Builtin.append_ #[t, t] ty #[v, .slice (some ⟨b, 0, none⟩) 1 1]).run P w = .ok v' w' ∧ w'.ownsRow 0 e 1 v' (n + 1) (xs ++ [u]) ∧ w.grownBy w' v.ownBlock ∧ v'.ownBlock = some k ∧ (v.ownBlock = some k ∨ k = w.heap.size) := by
  have hnews : ∀ j x, [u][j]? = some x → w.cell? ((⟨b, 0, none⟩ : Addr).add j) = some x := by
    intro j x hj
    rw [addr_add]
    cases j with
    | zero =>
      rw [hu]
      simpa using hj
    | succ j => simp at hj
  obtain ⟨v', w', hr, ho, hg, _⟩ := run_append_own (P := P) w 0 t ty e i z 1 8 ht hi hz hsize hby hzs (by decide) v n xs hown ⟨b, 0, none⟩ 1 1 [u] rfl hnews (by simpa using h1) (by simp only [maxLen]; omega) (by omega) (Nat.zero_le _)
  refine ⟨v', w', ?_⟩
  have hk : ∃ k, v'.ownBlock = some k ∧ (v.ownBlock = some k ∨ k = w.heap.size) := by
    rcases hown.2 with ⟨rfl, rfl⟩ | ⟨g, cap, cur, rfl, _, hgg, hnc, hcm, hcs, htake⟩
    · have h2 := run_append_nil (P := P) w t ty e i z ht hi hz ⟨b, 0, none⟩ 1 1 [u] (by rw [hsize]; rfl) hnews (by decide) (by decide) (by omega)
      rw [hr] at h2
      injection h2 with h3 h4
      exact ⟨w.heap.size, by rw [h3]; rfl, .inr rfl⟩
    · by_cases hroom : n + 1 ≤ cap
      · have h2 := run_append_room (P := P) w t ty e i ht hi g n cap cur hgg ⟨b, 0, none⟩ 1 1 [u] (by rw [hsize]; rfl) hnews (by simpa using h1) hroom (by rw [hcs, hsize]; simp; omega)
        rw [hr] at h2
        injection h2 with h3 h4
        exact ⟨g, by rw [h3]; rfl, .inl rfl⟩
      · have holds : ∀ j x, xs[j]? = some x → w.cell? ((⟨g, 0, none⟩ : Addr).add j) = some x := hown.cells (g := g) rfl
        have h2 := run_append_grow (P := P) w t ty e i z ht hi hz ⟨g, 0, none⟩ n cap xs (by rw [hown.1, hsize]) holds ⟨b, 0, none⟩ 1 1 [u] (by rw [hsize]; rfl) hnews (by omega) (by omega) (growslice_fits (by omega) (by rw [hby]; omega))
        rw [hr] at h2
        injection h2 with h3 h4
        exact ⟨w.heap.size, by rw [h3]; rfl, .inr rfl⟩
  obtain ⟨k, h1, h2⟩ := hk
  exact ⟨k, hr, ho, hg, h1, h2⟩
end Go.Proofs.YtbjmbndeaobbeaaDoor
