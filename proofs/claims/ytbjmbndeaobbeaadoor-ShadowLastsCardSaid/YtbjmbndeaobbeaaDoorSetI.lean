/-
  Sets of numbers in memory (a map from int to an empty struct): what is in them; put, taken out, emptied; gone through.
-/
import Derived.Test.YtbjmbndeaobbeaaDoorMapInts
import Derived.Maps.RangeRun
namespace Go.Proofs.YtbjmbndeaobbeaaDoor
open Go.RowKit
set_option linter.unusedVariables false
set_option linter.unusedSimpArgs false
def keyI (n : Int) : Value := .int .i64 n
def unitV : Value := .agg #[]
def KeysI (es : List MapEntry) (L : List Int) : Prop := es.map (fun e => (e.key, e.val)) = L.map (fun n => (keyI n, unitV))
/-- A set in memory. -/
def SetI (w : World) (m : Nat) (L : List Int) : Prop := ∃ es clock, w.heap[m]? = some (.map es clock) ∧ KeysI es.toList L ∧ MapKept.Stamped es clock
theorem SetI.lt {w : World} {m : Nat} {L : List Int} (h : SetI w m L) : m < w.heap.size := by
  obtain ⟨es, c, h1, _⟩ := h
  exact (Array.getElem?_eq_some_iff.1 h1).1
theorem SetI.kept {w w' : World} {m : Nat} {L : List Int} (h : SetI w m L) (e : w'.heap[m]? = w.heap[m]?) : SetI w' m L := by
  obtain ⟨es, c, h1, h2⟩ := h
  exact ⟨es, c, e.trans h1, h2⟩
theorem KeysI.keys {es : List MapEntry} {L : List Int} (h : KeysI es L) : es.map (·.key) = L.map keyI := by
  have := congrArg (List.map Prod.fst) h
  simpa [List.map_map, Function.comp_def] using this
theorem KeysI.isKey {es : List MapEntry} {L : List Int} (h : KeysI es L) : ∀ x ∈ es, MapKept.IsKey (.int .i64) x.key := by
  intro x hx
  have : x.key ∈ L.map keyI := by rw [← h.keys]; exact List.mem_map.2 ⟨x, hx, rfl⟩
  obtain ⟨n, _, hn⟩ := List.mem_map.1 this
  rw [← hn]; rfl
theorem keyI_inj {a b : Int} (h : keyI a = keyI b) : a = b := by injection h
theorem KeysI.mem {es : List MapEntry} {L : List Int} (h : KeysI es L) (k : Int) : k ∈ L ↔ ∃ x ∈ es, x.key = keyI k := by
  constructor
  · intro hk
    have : keyI k ∈ es.map (·.key) := by rw [h.keys]; exact List.mem_map.2 ⟨k, hk, rfl⟩
    obtain ⟨x, hx, e⟩ := List.mem_map.1 this
    exact ⟨x, hx, e⟩
  · rintro ⟨x, hx, e⟩
    have : keyI k ∈ L.map keyI := by rw [← h.keys, ← e]; exact List.mem_map.2 ⟨x, hx, rfl⟩
    obtain ⟨n, hn, e⟩ := List.mem_map.1 this
    rw [← keyI_inj e]; exact hn
theorem KeysI.val {es : List MapEntry} {L : List Int} (h : KeysI es L) {x : MapEntry} (hx : x ∈ es) : x.val = unitV := by
  have : (x.key, x.val) ∈ L.map (fun n => (keyI n, unitV)) := by rw [← h]; exact List.mem_map.2 ⟨x, hx, rfl⟩
  obtain ⟨n, _, hn⟩ := List.mem_map.1 this
  exact (Prod.mk.inj hn).2.symm
theorem SetI.nodup {w : World} {m : Nat} {L : List Int} (h : SetI w m L) : L.Nodup := by
  obtain ⟨es, c, _, h2, h3⟩ := h
  have := ((MapKept.stamped_iff es c).1 h3).2.2
  have h4 : (es.toList.map (·.key)).Nodup := List.pairwise_map.2 this
  rw [h2.keys] at h4
  exact (List.pairwise_map.1 h4).imp fun hne e => hne (by rw [e])
def isK (n : Int) : Value → Bool
  | .int .i64 x => decide (x = n)
  | _ => false
theorem isK_iff (n : Int) (v : Value) : isK n v = true ↔ v = keyI n := by
  unfold isK keyI
  split
  · simp
  · rename_i h
    constructor
    · intro h2; cases h2
    · intro h2; exact absurd h2 (h n)
theorem isK_no {n : Int} {v : Value} (h : v ≠ keyI n) : isK n v = false := by
  cases hk : isK n v
  · rfl
  · exact absurd ((isK_iff n v).1 hk) h
theorem isK_self (n : Int) : isK n (keyI n) = true := (isK_iff n _).2 rfl
theorem erase_filter : ∀ (l : List MapEntry) (j : Nat) (hj : j < l.length) (n : Int), l[j].key = keyI n → l.Pairwise (fun x y => x.key ≠ y.key) → l.eraseIdx j = l.filter fun y => !isK n y.key
  | x :: l, 0, hj, n, hx, hp => by
    have h1 := List.pairwise_cons.1 hp
    have h2 : x.key = keyI n := hx
    rw [List.eraseIdx_cons_zero, List.filter_cons_of_neg (by rw [h2, isK_self]; decide), List.filter_eq_self.2]
    intro y hy
    rw [isK_no (fun e => h1.1 y hy (h2.trans e.symm))]; rfl
  | x :: l, j + 1, hj, n, hx, hp => by
    have h1 := List.pairwise_cons.1 hp
    have hj' : j < l.length := by simpa using hj
    have h2 : l[j].key = keyI n := hx
    rw [List.eraseIdx_cons_succ, List.filter_cons_of_pos, erase_filter l j hj' n h2 h1.2]
    rw [isK_no (fun e => h1.1 l[j] (List.getElem_mem _) (e.trans h2.symm))]; rfl
theorem keys_filter {l : List MapEntry} {L : List Int} (he : KeysI l L) (n : Int) : KeysI (l.filter fun y => !isK n y.key) (L.filter fun x => decide (x ≠ n)) := by
  induction l generalizing L with
  | nil => cases L with
    | nil => rfl
    | cons a L => simp [KeysI] at he
  | cons x l ih =>
    cases L with
    | nil => simp [KeysI] at he
    | cons a L =>
      unfold KeysI at he
      simp only [List.map_cons, List.cons.injEq, Prod.mk.injEq] at he
      have ih' := ih (L := L) he.2
      by_cases h : a = n
      · rw [List.filter_cons_of_neg (by rw [he.1.1, h, isK_self]; decide), List.filter_cons_of_neg (by simp [h])]
        exact ih'
      · rw [List.filter_cons_of_pos (by rw [he.1.1, isK_no (fun e => h (keyI_inj e))]; rfl), List.filter_cons_of_pos (by simpa using h)]
        unfold KeysI at ih' ⊢
        rw [List.map_cons, List.map_cons, ih', he.1.1, he.1.2]
section
variable {P : Program} {w : World} {m : Nat} {L : List Int} {t k e : TypeId} (ht : P.underlying t = some (.map k e)) (hk : P.underlying k = some (.int .i64))
include ht hk
theorem lookupS (h : SetI w m L) (n : Int) (hz : (zeroValue e).run P w = .ok unitV w) :
    (Instr.lookup t (.map (some m)) (.int .i64 n) true).run P w = .ok (.tuple #[unitV, .bool (decide (n ∈ L))]) w := by
  obtain ⟨es, c, hb, he, hs⟩ := h
  have h1 := MapKept.run_getObj_map (P := P) hb
  have h2 := MapKept.run_checkKey (P := P) (w := w) hk (k := .int .i64 n) rfl es.isEmpty 9999
  rcases MapKept.findNow_spec (d := .int .i64) (k := .int .i64 n) rfl es.toList 0 he.isKey with ⟨h3, h4⟩ | ⟨j, x, h3, h4, h5⟩
  · have h6 := MapKept.run_findKey (P := P) (w := w) hk h3
    have hn : ¬ n ∈ L := fun hn => by
      obtain ⟨x, hx, e⟩ := (he.mem n).1 hn
      exact h4 x hx e
    rw [decide_eq_false hn]
    simp [Instr.lookup, run_underlying ht, h1, h2, h6, hz]
  · have h6 := MapKept.run_findKey (P := P) (w := w) hk h3
    have hx : x ∈ es.toList := List.mem_of_getElem? h4
    rw [decide_eq_true ((he.mem n).2 ⟨x, hx, h5⟩)]
    have hv := he.val hx
    simp [Instr.lookup, run_underlying ht, h1, h2, h6, hv]
theorem putS (h : SetI w m L) (n : Int) (hn : n ∉ L) :
    ∃ o, (Instr.mapUpdate t (.map (some m)) (.int .i64 n) unitV).run P w = .ok () { w with heap := w.heap.setIfInBounds m o } ∧ SetI { w with heap := w.heap.setIfInBounds m o } m (L ++ [n]) := by
  obtain ⟨es, c, hb, he, hs⟩ := h
  have h1 := MapKept.run_getObj_map (P := P) hb
  have h2 := MapKept.run_checkKey (P := P) (w := w) hk (k := .int .i64 n) rfl false 9999
  rcases MapKept.findNow_spec (d := .int .i64) (k := .int .i64 n) rfl es.toList 0 he.isKey with ⟨h3, h4⟩ | ⟨j, x, h3, h4, h5⟩
  · have h6 := MapKept.run_findKey (P := P) (w := w) hk h3
    have h7 := MapKept.run_setObj_map (P := P) (.map (es.push { key := .int .i64 n, val := unitV, born := c }) (c + 1)) hb
    refine ⟨_, by simp [Instr.mapUpdate, run_underlying ht, h1, h2, h6, h7]; rfl, ?_⟩
    refine ⟨_, _, (MapKept.heap_set hb).1, ?_, MapKept.stamped_push hs h4⟩
    unfold KeysI at *
    rw [Array.toList_push, List.map_append, he, List.map_append]
    rfl
  · exact absurd ((he.mem n).2 ⟨x, List.mem_of_getElem? h4, h5⟩) hn
theorem delS (h : SetI w m L) (n : Int) (ty : TypeId) :
    ∃ o, (Builtin.delete_ #[t, k] ty #[.map (some m), .int .i64 n]).run P w = .ok (.tuple #[]) { w with heap := w.heap.setIfInBounds m o } ∧ SetI { w with heap := w.heap.setIfInBounds m o } m (L.filter fun x => decide (x ≠ n)) := by
  obtain ⟨es, c, hb, he, hs⟩ := h
  have h1 := MapKept.run_getObj_map (P := P) hb
  have h2 := MapKept.run_checkKey (P := P) (w := w) hk (k := .int .i64 n) rfl es.isEmpty 9999
  have hkn := ((MapKept.stamped_iff es c).1 hs).2.2
  rcases MapKept.findNow_spec (d := .int .i64) (k := .int .i64 n) rfl es.toList 0 he.isKey with ⟨h3, h4⟩ | ⟨j, x, h3, h4, h5⟩
  · have h6 := MapKept.run_findKey (P := P) (w := w) hk h3
    have h7 := MapKept.run_setObj_map (P := P) (.map es c) hb
    refine ⟨.map es c, by simp [Builtin.delete_, run_underlying ht, h1, h2, h6, h7], ?_⟩
    refine ⟨es, c, (MapKept.heap_set hb).1, ?_, hs⟩
    have hf : L.filter (fun x => decide (x ≠ n)) = L := by
      rw [List.filter_eq_self]
      intro x hx
      simp only [decide_eq_true_eq]
      intro e
      subst e
      obtain ⟨y, hy, e⟩ := (he.mem x).1 hx
      exact h4 y hy e
    rw [hf]; exact he
  · have h6 := MapKept.run_findKey (P := P) (w := w) hk h3
    have h7 := MapKept.run_setObj_map (P := P) (.map (es.eraseIdxIfInBounds j) c) hb
    rw [Nat.zero_add] at h6
    refine ⟨.map (es.eraseIdxIfInBounds j) c, by simp [Builtin.delete_, run_underlying ht, h1, h2, h6, h7], ?_⟩
    refine ⟨_, c, (MapKept.heap_set hb).1, ?_, MapKept.stamped_erase hs j⟩
    obtain ⟨hjl, hjx⟩ := List.getElem?_eq_some_iff.1 h4
    have e1 : (es.eraseIdxIfInBounds j).toList = es.toList.filter fun y => !isK n y.key := by
      have hj2 : j < es.size := by simpa using hjl
      unfold Array.eraseIdxIfInBounds
      rw [dif_pos hj2, Array.toList_eraseIdx]
      exact erase_filter es.toList j hjl n (by rw [hjx]; exact h5) hkn
    rw [e1]
    exact keys_filter he n
omit hk in
theorem clearS (h : SetI w m L) (ty : TypeId) :
    ∃ o, (Builtin.clear_ #[t] ty #[.map (some m)]).run P w = .ok (.tuple #[]) { w with heap := w.heap.setIfInBounds m o } ∧ SetI { w with heap := w.heap.setIfInBounds m o } m [] := by
  obtain ⟨es, c, hb, he, hs⟩ := h
  have h1 := MapKept.run_getObj_map (P := P) hb
  have h4 := MapKept.run_setObj_map (P := P) (.map #[] c) hb
  refine ⟨_, by simp [Builtin.clear_, run_underlying ht, h1, h4]; rfl, ?_⟩
  exact ⟨_, _, (MapKept.heap_set hb).1, rfl, MapKept.stamped_empty c⟩
omit hk in
theorem lenS (h : SetI w m L) (ty : TypeId) : (Builtin.len_ #[t] ty #[.map (some m)]).run P w = .ok (.int .i64 (L.length : Int)) w := by
  obtain ⟨es, c, hb, he, hs⟩ := h
  have h1 := MapKept.run_getObj_map (P := P) hb
  have hl : es.size = L.length := by
    have := congrArg List.length he
    simpa using this
  simp [Builtin.len_, Builtin.lenOf, run_underlying ht, h1, hl, goInt]
end
/-- A set that is gone through: what is left to come. -/
def RangeS (w : World) (r m : Nat) (L left : List Int) : Prop := ∃ es clock since seen last, w.heap[m]? = some (.map es clock) ∧ KeysI es.toList L ∧ MapKept.Stamped es clock ∧
  w.heap[r]? = some (.mapIter (some m) since seen last) ∧ (∀ x ∈ es.toList, x.born < since) ∧ since ≤ last ∧ since ≤ clock ∧ KeysI (leftOf es seen).toList left
theorem RangeS.set {w : World} {r m : Nat} {L left : List Int} (h : RangeS w r m L left) : SetI w m L := by
  obtain ⟨es, c, s, sn, l, h1, h2, h3, _⟩ := h
  exact ⟨es, c, h1, h2, h3⟩
theorem RangeS.kept {w w' : World} {r m : Nat} {L left : List Int} (h : RangeS w r m L left) (e1 : w'.heap[m]? = w.heap[m]?) (e2 : w'.heap[r]? = w.heap[r]?) : RangeS w' r m L left := by
  obtain ⟨es, c, s, sn, l, h1, h2, h3, h4, h5⟩ := h
  exact ⟨es, c, s, sn, l, e1.trans h1, h2, h3, e2.trans h4, h5⟩
theorem RangeS.ne {w : World} {r m : Nat} {L left : List Int} (h : RangeS w r m L left) : r ≠ m := by
  obtain ⟨es, c, s, sn, l, h1, h2, h3, h4, h5⟩ := h
  intro e
  subst e
  rw [h1] at h4
  cases h4
theorem RangeS.lt {w : World} {r m : Nat} {L left : List Int} (h : RangeS w r m L left) : r < w.heap.size := by
  obtain ⟨es, c, s, sn, l, h1, h2, h3, h4, h5⟩ := h
  exact (Array.getElem?_eq_some_iff.1 h4).1
/-- What is left is in the set, each once. -/
theorem RangeS.sub {w : World} {r m : Nat} {L left : List Int} (h : RangeS w r m L left) : (∀ x ∈ left, x ∈ L) ∧ left.Nodup := by
  obtain ⟨es, c, s, sn, l, h1, h2, h3, h4, h5, h6, h6', h7⟩ := h
  have hs : (leftOf es sn).toList.Sublist es.toList := by unfold leftOf; rw [Array.toList_filter]; exact List.filter_sublist
  refine ⟨fun x hx => ?_, ?_⟩
  · obtain ⟨y, hy, e⟩ := (h7.mem x).1 hx
    exact (h2.mem x).2 ⟨y, hs.subset hy, e⟩
  · have hkn := ((MapKept.stamped_iff es c).1 h3).2.2
    have h8 : ((leftOf es sn).toList.map (·.key)).Nodup := List.pairwise_map.2 (hkn.sublist hs)
    rw [h7.keys] at h8
    exact (List.pairwise_map.1 h8).imp fun hne e => hne (by rw [e])
theorem entry_of_born {l : List MapEntry} (h : (l.map (·.born)).Nodup) {x y : MapEntry} (hx : x ∈ l) (hy : y ∈ l) (e : x.born = y.born) : x = y := by
  have h1 := find_born x l h hx
  have h2 := find_born y l h hy
  rw [e] at h1
  rw [h1] at h2
  exact Option.some.inj h2
theorem rangeS {P : Program} {w : World} {m : Nat} {L : List Int} {t k e : TypeId} (ht : P.underlying t = some (.map k e)) (h : SetI w m L) :
    ∃ w', (Instr.range t (.map (some m))).run P w = .ok (.pointer (some ⟨w.heap.size, 0, none⟩)) w' ∧ RangeS w' w.heap.size m L L ∧ Below w.heap.size w w' ∧ w'.heap.size = w.heap.size + 1 := by
  obtain ⟨es, c, hb, he, hs⟩ := h
  have h1 := MapKept.run_getObj_map (P := P) hb
  have hm := (Array.getElem?_eq_some_iff.1 hb).1
  refine ⟨w.alloc (.mapIter (some m) c #[] c), by simp [Instr.range, run_underlying ht, h1, newObj, Sem.run], ⟨es, c, c, #[], c, (MapKept.heap_alloc w _).2 m hm |>.trans hb, he, hs, (MapKept.heap_alloc w _).1, ((MapKept.stamped_iff es c).1 hs).1, Nat.le_refl _, Nat.le_refl _, ?_⟩, (Below.refl _ _).alloc (Nat.le_refl _) _, by simp⟩
  have : leftOf es #[] = es := by unfold leftOf; simp
  rw [this]; exact he
theorem nextS {P : Program} {w : World} {r m : Nat} {L left : List Int} (h : RangeS w r m L left) (ty : TypeId) :
    (left = [] ∧ (Instr.next (.pointer (some ⟨r, 0, none⟩)) false ty).run P w = .ok (.tuple #[.bool false]) w) ∨
    ∃ n ∈ left, ∃ w', (Instr.next (.pointer (some ⟨r, 0, none⟩)) false ty).run P w = .ok (.tuple #[.bool true, .int .i64 n, unitV]) w' ∧ RangeS w' r m L (left.filter fun x => decide (x ≠ n)) ∧
      Frm (fun k => k = r) w w' ∧ w'.heap.size = w.heap.size ∧ (Instr.entry (.pointer (some ⟨r, 0, none⟩))).run P w' = .ok (.tuple #[.int .i64 n, unitV]) w' := by
  have hne := h.ne
  obtain ⟨es, c, s, sn, l, h1, h2, h3, h4, h5, h6, h6', h7⟩ := h
  rcases run_next_at (P := P) w ty r m s l sn es c h4 h1 h5 h6 with ⟨h0, hrun⟩ | ⟨e, hel, w1, hw1, hrun⟩
  · left
    have e1 : (leftOf es sn).toList = [] := by
      apply List.eq_nil_of_length_eq_zero; simpa using h0
    rw [e1] at h7
    cases left with
    | nil => exact ⟨rfl, hrun⟩
    | cons a left => simp [KeysI] at h7
  · right
    have hsub : (leftOf es sn).toList.Sublist es.toList := by unfold leftOf; rw [Array.toList_filter]; exact List.filter_sublist
    have hes : e ∈ es.toList := hsub.subset hel
    obtain ⟨hb1, hb2, hb3⟩ := (MapKept.stamped_iff es c).1 h3
    have hkey : ∃ n, n ∈ left ∧ e.key = keyI n := by
      have : e.key ∈ left.map keyI := by rw [← h7.keys]; exact List.mem_map.2 ⟨e, hel, rfl⟩
      obtain ⟨n, hn, e1⟩ := List.mem_map.1 this
      exact ⟨n, hn, e1.symm⟩
    obtain ⟨n, hn, hk⟩ := hkey
    have hv := h2.val hes
    have hr : w1.heap = w.heap ∧ w1.os = w.os ∧ w1.tape = w.tape ∧ w1.output = w.output := by rcases hw1 with rfl | rfl <;> exact ⟨rfl, rfl, rfl, rfl⟩
    have hrl : r < w1.heap.size := by rw [hr.1]; exact (Array.getElem?_eq_some_iff.1 h4).1
    have q1 : (ChangeMaps.setBlock w1 r (.mapIter (some m) s (sn.push e.born) c)).heap[r]? = some (.mapIter (some m) s (sn.push e.born) c) := by
      simp [ChangeMaps.setBlock, hrl]
    have q2 : ∀ i, i ≠ r → (ChangeMaps.setBlock w1 r (.mapIter (some m) s (sn.push e.born) c)).heap[i]? = w.heap[i]? := fun i hi => by
      simp only [ChangeMaps.setBlock]
      rw [Array.getElem?_setIfInBounds_ne (Ne.symm hi), hr.1]
    have q3 : (ChangeMaps.setBlock w1 r (.mapIter (some m) s (sn.push e.born) c)).heap.size = w.heap.size := by
      simp [ChangeMaps.setBlock, hr.1]
    rw [hk, hv] at hrun
    refine ⟨n, hn, _, hrun, ⟨es, c, s, sn.push e.born, c, (q2 m (Ne.symm hne)).trans h1, h2, h3, q1, h5, h6', h6', ?_⟩, ⟨hr.2.1, hr.2.2.1, hr.2.2.2, by rw [q3]; exact Nat.le_refl _, fun i _ hi => q2 i hi⟩, q3, ?_⟩
    · have e1 : (leftOf es (sn.push e.born)).toList = (leftOf es sn).toList.filter fun y => !isK n y.key := by
        unfold leftOf
        rw [Array.toList_filter, Array.toList_filter, List.filter_filter]
        apply List.filter_congr
        intro y hy
        have hiff : y.born = e.born ↔ y.key = keyI n := by
          constructor
          · intro hb
            have : y = e := entry_of_born hb2 hy hes hb
            rw [this]; exact hk
          · intro hb
            have : y = e := entry_eq_of_key hb3 hy hes (by rw [hb, hk])
            rw [this]
        by_cases hb : y.born = e.born
        · have hb' := hiff.1 hb
          rw [hb', isK_self, hb]
          simp
        · have hb' : ¬ y.key = keyI n := fun x => hb (hiff.2 x)
          rw [isK_no hb']
          simp [hb]
      rw [e1]
      exact keys_filter h7 n
    · rw [← hv]
      have := run_entry_at (P := P) (ChangeMaps.setBlock w1 r (.mapIter (some m) s (sn.push e.born) c)) r m s sn es c e q1 ((q2 m (Ne.symm hne)).trans h1) hes hb2
      rw [hk, hv] at this
      rw [hv]; exact this
end Go.Proofs.YtbjmbndeaobbeaaDoor
