/-
  The document's own disk, as memory and apart from it.
-/
import Derived.Test.YteaiiiikehimgaaDkN
import Derived.Deep.RegionHeld3
import Derived.StillTailTactics
import Derived.BigQuiet
namespace Go.Proofs.Yteaiiiikehimgaa
open Go.RowKit
set_option linter.unusedVariables false
set_option linter.unusedSimpArgs false
def WasV (p : Nat × List UInt8) : List Value := [.int .i64 (p.1 : Int), .string (Str p.2)]
theorem wasV_len (L : List (Nat × List UInt8)) : (L.flatMap WasV).length = L.length * 2 := by
  induction L with
  | nil => rfl
  | cons p L ih => rw [List.flatMap_cons, List.length_append, ih, List.length_cons]; show 2 + _ = _; omega
theorem wasV_get (L : List (Nat × List UInt8)) (j : Nat) (hj : j < L.length) : (L.flatMap WasV)[j * 2]? = some (.int .i64 ((L[j].1 : Nat) : Int)) := by
  induction L generalizing j with
  | nil => simp at hj
  | cons p L ih =>
    rw [List.flatMap_cons]
    cases j with
    | zero => rfl
    | succ j =>
      have hj2 : j < L.length := by simpa using hj
      rw [List.getElem?_append_right (by show 2 ≤ _; omega)]
      have e : (j + 1) * 2 - (WasV p).length = j * 2 := by show (j + 1) * 2 - 2 = _; omega
      rw [e, ih j hj2]
      simp
structure RkIn (w : World) (x : Nat) (vs vl : Value) (st : DkS) : Prop where
  cell : w.heap[x]? = some (.cells #[vs, vl, .int .i64 st.fuse, .bool (!st.up)] 60 (0, 0))
  secs : w.ownsRow 0 9 1 vs st.S.length (st.S.map fun s => .string (Str s))
  loose : w.ownsRow 0 72 2 vl st.L.length (st.L.flatMap WasV)
  sx : vs.ownBlock ≠ some x
  lx : vl.ownBlock ≠ some x
  sl : ∀ k, vs.ownBlock = some k → vl.ownBlock ≠ some k
  ok : st.Ok
def RkF (x : Nat) (vs vl : Value) (k : Nat) : Prop := k = x ∨ vs.ownBlock = some k ∨ vl.ownBlock = some k
def Rk (w : World) (x : Nat) (st : DkS) (F : Nat → Prop) : Prop := ∃ vs vl, RkIn w x vs vl st ∧ ∀ k, F k ↔ RkF x vs vl k
theorem ownsRow_keptN {w w' : World} {e : TypeId} {b size : Nat} {v : Value} {n : Nat} {xs : List Value} (h : w.ownsRow b e size v n xs) (hk : ∀ k, v.ownBlock = some k → w'.heap[k]? = w.heap[k]?) : w'.ownsRow b e size v n xs := by
  refine ⟨h.1, ?_⟩
  rcases h.2 with h2 | ⟨g, cap, cur, rfl, hb, hg, r⟩
  · exact .inl h2
  · exact .inr ⟨g, cap, cur, rfl, hb, (hk g rfl).trans hg, r⟩
theorem ownsRow_base {w : World} {e : TypeId} {b size : Nat} {v : Value} {n : Nat} {xs : List Value} (h : w.ownsRow b e size v n xs) : w.ownsRow 0 e size v n xs := by
  refine ⟨h.1, ?_⟩
  rcases h.2 with h2 | ⟨g, cap, cur, hv, hb, r⟩
  · exact .inl h2
  · exact .inr ⟨g, cap, cur, hv, Nat.zero_le _, r⟩
theorem ownsRow_put {w : World} {e : TypeId} {g n cap : Nat} {xs : List Value} (h : w.ownsRow 0 e 1 (.slice (some ⟨g, 0, none⟩) n cap) n xs) (j : Nat) (u : Value) : (w.setCell ⟨g, j, none⟩ u).ownsRow 0 e 1 (.slice (some ⟨g, 0, none⟩) n cap) n (xs.set j u) := by
  refine ⟨by rw [List.length_set]; exact h.1, .inr ?_⟩
  rcases h.2 with ⟨h2, _⟩ | ⟨g2, cap2, cur, hv, hb, hg, hnc, hcm, hcs, ht⟩
  · cases h2
  · injection hv with h1 h2 h3
    injection h1 with h1
    injection h1 with h1
    subst h1 h3
    refine ⟨g, cap, _, rfl, hb, heap_setCell_same w g j _ _ u hg, hnc, hcm, by rw [Array.size_setIfInBounds]; exact hcs, ?_⟩
    rw [Array.toList_setIfInBounds, List.take_set, ht]
theorem RkIn.lt {w : World} {x : Nat} {vs vl : Value} {st : DkS} (h : RkIn w x vs vl st) (k : Nat) (hk : RkF x vs vl k) : k < w.heap.size := by
  rcases hk with rfl | hk | hk
  · exact (Array.getElem?_eq_some_iff.1 h.cell).1
  · exact (h.secs.lt k hk).2
  · exact (h.loose.lt k hk).2
theorem RkIn.kept {w w' : World} {x : Nat} {vs vl : Value} {st : DkS} (h : RkIn w x vs vl st) (hk : ∀ k, RkF x vs vl k → w'.heap[k]? = w.heap[k]?) : RkIn w' x vs vl st :=
  ⟨(hk x (.inl rfl)).trans h.cell, ownsRow_keptN h.secs fun k hj => hk k (.inr (.inl hj)), ownsRow_keptN h.loose fun k hj => hk k (.inr (.inr hj)), h.sx, h.lx, h.sl, h.ok⟩
theorem RkIn.below {w w' : World} {x : Nat} {vs vl : Value} {st : DkS} (h : RkIn w x vs vl st) (hb : Below w.heap.size w w') : RkIn w' x vs vl st := h.kept fun k hk => hb.block k (h.lt k hk)
theorem RkIn.cells {w : World} {x : Nat} {vs vl : Value} {st : DkS} (h : RkIn w x vs vl st) :
    w.cell? ⟨x, 0, none⟩ = some vs ∧ w.cell? ⟨x, 1, none⟩ = some vl ∧ w.cell? ⟨x, 2, none⟩ = some (.int .i64 st.fuse) ∧ w.cell? ⟨x, 3, none⟩ = some (.bool (!st.up)) := by
  refine ⟨?_, ?_, ?_, ?_⟩ <;> (rw [cell_of_row w x _ _ _ _ h.cell]; rfl)
theorem RkIn.free {w : World} {x : Nat} {vs vl : Value} {st : DkS} (h : RkIn w x vs vl st) (j : Nat) : w.frozen? ⟨x, j, none⟩ = false := frozen_of_row w x j _ _ h.cell
theorem RkIn.setFuse {w : World} {x : Nat} {vs vl : Value} {st : DkS} (h : RkIn w x vs vl st) (f : Int) (h0 : -9223372036854775808 ≤ f) (h1 : f ≤ 9223372036854775807) : RkIn (w.setCell ⟨x, 2, none⟩ (.int .i64 f)) x vs vl { st with fuse := f } :=
  ⟨by rw [heap_setCell_same w x 2 _ _ _ h.cell]; rfl, ownsRow_keptN h.secs fun k hk => heap_setCell_other _ _ k _ (fun e => h.sx (by rw [hk, e])), ownsRow_keptN h.loose fun k hk => heap_setCell_other _ _ k _ (fun e => h.lx (by rw [hk, e])), h.sx, h.lx, h.sl,
   { lens := h.ok.lens, had := h.ok.had, keys := h.ok.keys, few := h.ok.few, least := h.ok.least, fuse0 := h0, fuse1 := h1 }⟩
theorem RkIn.setUp {w : World} {x : Nat} {vs vl : Value} {st : DkS} (h : RkIn w x vs vl st) (u : Bool) : RkIn (w.setCell ⟨x, 3, none⟩ (.bool (!u))) x vs vl { st with up := u } :=
  ⟨by rw [heap_setCell_same w x 3 _ _ _ h.cell]; rfl, ownsRow_keptN h.secs fun k hk => heap_setCell_other _ _ k _ (fun e => h.sx (by rw [hk, e])), ownsRow_keptN h.loose fun k hk => heap_setCell_other _ _ k _ (fun e => h.lx (by rw [hk, e])), h.sx, h.lx, h.sl,
   { lens := h.ok.lens, had := h.ok.had, keys := h.ok.keys, few := h.ok.few, least := h.ok.least, fuse0 := h.ok.fuse0, fuse1 := h.ok.fuse1 }⟩
theorem RkIn.vs_is {w : World} {x : Nat} {vs vl : Value} {st : DkS} (h : RkIn w x vs vl st) : ∃ g cap, vs = .slice (some ⟨g, 0, none⟩) st.S.length cap ∧ st.S.length ≤ cap ∧ cap ≤ maxLen := by
  rcases h.secs.2 with ⟨_, h2⟩ | ⟨g, cap, cur, hv, hb, hg, hnc, hcm, _⟩
  · have := h.ok.least; omega
  · exact ⟨g, cap, hv, hnc, hcm⟩
theorem RkIn.sec {w : World} {x g cap : Nat} {vl : Value} {st : DkS} (h : RkIn w x (.slice (some ⟨g, 0, none⟩) st.S.length cap) vl st) (n : Nat) (hn : n < st.S.length) : w.cell? ⟨g, n, none⟩ = some (.string (Str st.S[n])) ∧ w.frozen? ⟨g, n, none⟩ = false := by
  refine ⟨?_, ?_⟩
  · have := h.secs.cells (g := g) rfl n (.string (Str st.S[n])) (by rw [List.getElem?_map, List.getElem?_eq_getElem hn]; rfl)
    rw [addr_add, Nat.zero_add] at this
    exact this
  · rcases h.secs.2 with ⟨h2, _⟩ | ⟨g2, cap2, cur, hv, hb, hg, _⟩
    · cases h2
    · injection hv with h1 h2 h3
      injection h1 with h1
      injection h1 with h1
      subst h1
      exact frozen_of_row w g n _ _ hg
theorem RkIn.setSec {w : World} {x g cap : Nat} {vl : Value} {st : DkS} (h : RkIn w x (.slice (some ⟨g, 0, none⟩) st.S.length cap) vl st) (n : Nat) (s : ByteArray) (hs : s.size = 256) : RkIn (w.setCell ⟨g, n, none⟩ (.string s)) x (.slice (some ⟨g, 0, none⟩) st.S.length cap) vl { st with S := st.S.set n s.data.toList } := by
  have hxg : x ≠ g := fun e => h.sx (by rw [e]; rfl)
  refine ⟨(heap_setCell_other _ _ x _ hxg).trans h.cell, ?_, ownsRow_keptN h.loose fun k hk => heap_setCell_other _ _ k _ (fun e => h.sl g rfl (by rw [hk, e])), h.sx, h.lx, h.sl, ?_⟩
  · have := ownsRow_put h.secs n (.string s)
    rw [List.length_set, List.map_set, Str_of]
    exact this
  · refine { lens := fun s' hs' => ?_, had := fun p hp => by rw [List.length_set]; exact h.ok.had p hp, keys := h.ok.keys, few := by rw [List.length_set]; exact h.ok.few, least := by rw [List.length_set]; exact h.ok.least, fuse0 := h.ok.fuse0, fuse1 := h.ok.fuse1 }
    rcases List.mem_or_eq_of_mem_set hs' with h1 | h1
    · exact h.ok.lens s' h1
    · rw [h1]; simpa using hs
def RkPost (w : World) (x : Nat) (st : DkS) (F : Nat → Prop) (w' : World) : Prop := ∃ F', Rk w' x st F' ∧ Frm F w w' ∧ ∀ k, F' k → F k ∨ w.heap.size ≤ k
theorem RkPost.same {w : World} {x : Nat} {st : DkS} {F : Nat → Prop} (h : Rk w x st F) : RkPost w x st F w := ⟨F, h, Frm.refl _ _, fun k hk => .inl hk⟩
set_option maxHeartbeats 400000 in
theorem refRead_down (w : World) (x : Nat) (st : DkS) (F : Nat → Prop) (h : Rk w x st F) (i : Int) (hu : st.up = false) :
    Calls Try.prog 26 #[.pointer (some ⟨x, 0, none⟩), .int .i64 i] w fun e w' => e = .returned (.tuple #[.string ⟨#[]⟩, .int .i64 5]) ∧ w = w' := by
  obtain ⟨vs, vl, hi, he⟩ := h
  obtain ⟨_, _, _, c3⟩ := hi.cells
  rw [hu] at c3
  clear hi he hu
  go_enter Try.func26, Try.ntmps26
  go_wp2_with fail
  go_ret2
  exact ⟨rfl, rfl⟩
set_option maxHeartbeats 400000 in
theorem refRead_no (w : World) (x : Nat) (st : DkS) (F : Nat → Prop) (h : Rk w x st F) (i : Int) (hu : st.up = true) (hn : i < 0 ∨ (0 ≤ i ∧ (st.S.length : Int) ≤ i)) :
    Calls Try.prog 26 #[.pointer (some ⟨x, 0, none⟩), .int .i64 i] w fun e w' => e = .returned (.tuple #[.string ⟨#[]⟩, .int .i64 1]) ∧ w = w' := by
  obtain ⟨vs, vl, hi, he⟩ := h
  obtain ⟨g, cap, rfl, h1, h2⟩ := hi.vs_is
  obtain ⟨c0, _, _, c3⟩ := hi.cells
  rw [hu] at c3
  generalize st.S.length = m at *
  clear hi he hu
  rcases hn with hn | ⟨hn, hn2⟩
  all_goals
    go_enter Try.func26, Try.ntmps26
    go_wp2_with fail
    go_ret2
    exact ⟨rfl, rfl⟩
set_option maxHeartbeats 400000 in
theorem refRead_yes (w : World) (x : Nat) (st : DkS) (F : Nat → Prop) (h : Rk w x st F) (n : Nat) (hu : st.up = true) (hn : n < st.S.length) (s : ByteArray) (hs : Str st.S[n] = s) :
    Calls Try.prog 26 #[.pointer (some ⟨x, 0, none⟩), .int .i64 (n : Int)] w fun e w' => e = .returned (.tuple #[.string s, .int .i64 0]) ∧ w = w' := by
  obtain ⟨vs, vl, hi, he⟩ := h
  obtain ⟨g, cap, rfl, h1, h2⟩ := hi.vs_is
  obtain ⟨c0, _, _, c3⟩ := hi.cells
  obtain ⟨cs, _⟩ := hi.sec n hn
  rw [hs] at cs
  rw [hu] at c3
  clear hi he hu hs
  generalize st.S.length = m at *
  have hni : (n : Int) < (m : Int) := by omega
  go_enter Try.func26, Try.ntmps26
  go_wp2_with fail
  go_ret2
  exact ⟨rfl, rfl⟩
theorem refRead_any (w : World) (x : Nat) (st : DkS) (F : Nat → Prop) (h : Rk w x st F) (i : Int) :
    Calls Try.prog 26 #[.pointer (some ⟨x, 0, none⟩), .int .i64 i] w fun e w' => e = .returned (.tuple #[.string (Str (st.read i).1), .int .i64 (st.read i).2]) ∧ w = w' := by
  unfold DkS.read
  cases hu : st.up
  · rw [if_pos rfl]
    exact refRead_down w x st F h i hu
  · rw [if_neg (by simp)]
    cases hc : (decide (0 ≤ i) && decide (i < (st.S.length : Int)))
    · rw [if_pos rfl]
      refine refRead_no w x st F h i hu ?_
      rw [Bool.and_eq_false_iff, decide_eq_false_iff_not, decide_eq_false_iff_not] at hc
      omega
    · rw [if_neg (by simp)]
      simp only [Bool.and_eq_true, decide_eq_true_eq] at hc
      obtain ⟨n, rfl⟩ := Int.eq_ofNat_of_zero_le hc.1
      have hn : n < st.S.length := by omega
      refine refRead_yes w x st F h n hu hn _ ?_
      rw [Int.toNat_natCast, List.getD_eq_getElem?_getD, List.getElem?_eq_getElem hn]
      rfl
end Go.Proofs.Yteaiiiikehimgaa
