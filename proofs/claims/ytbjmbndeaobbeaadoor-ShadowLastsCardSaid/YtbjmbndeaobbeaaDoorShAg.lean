/-
  The law ShadowAgain, in the model.
-/
import Derived.Test.YtbjmbndeaobbeaaDoorShHd
namespace Go.Proofs.YtbjmbndeaobbeaaDoor
open Go.RowKit
set_option linter.unusedVariables false
set_option linter.unusedSimpArgs false
/-- A disk with power and no fuse, of 20 sectors, the first of them these. -/
structure AgOk (st : DkS) (a b : List UInt8) (P : Nat → List UInt8) (m : Nat) : Prop where
  up : st.up = true
  fuse : st.fuse = -1
  len : st.S.length = 20
  s0 : st.S[0]? = some a
  s1 : st.S[1]? = some b
  pg : ∀ i, i < m → st.S[i + 2]? = some (P i)
theorem AgOk.wrote {st : DkS} {a b : List UInt8} {P : Nat → List UInt8} {m : Nat} (h : AgOk st a b P m) (hm : m < 17) (s : List UInt8) (hs : s = P m) : AgOk (st.wrote (m + 2) s) a b P (m + 1) :=
  { up := by rw [wrote_up]; exact h.up
    fuse := by rw [wrote_fuse, h.fuse]; rfl
    len := by rw [wrote_S, List.length_set]; exact h.len
    s0 := by rw [wrote_S, List.getElem?_set_ne (by omega)]; exact h.s0
    s1 := by rw [wrote_S, List.getElem?_set_ne (by omega)]; exact h.s1
    pg := fun i hi => by
      rw [wrote_S]
      by_cases e : i = m
      · subst e; rw [List.getElem?_set_self (by rw [h.len]; omega), hs]
      · rw [List.getElem?_set_ne (by omega)]; exact h.pg i (by omega) }
theorem AgOk.beside {st : DkS} {a b : List UInt8} {P : Nat → List UInt8} {m : Nat} (h : AgOk st a b P m) (s : List UInt8) : AgOk (st.wrote (m + 2) s) a b P m :=
  { up := by rw [wrote_up]; exact h.up
    fuse := by rw [wrote_fuse, h.fuse]; rfl
    len := by rw [wrote_S, List.length_set]; exact h.len
    s0 := by rw [wrote_S, List.getElem?_set_ne (by omega)]; exact h.s0
    s1 := by rw [wrote_S, List.getElem?_set_ne (by omega)]; exact h.s1
    pg := fun i hi => by rw [wrote_S, List.getElem?_set_ne (by omega)]; exact h.pg i hi }
theorem usedN_used' (st st' : ShS) (n : Nat) (e : st.h.used = st'.h.used) : usedN st n = usedN st' n := by
  unfold usedN
  have key : ∀ k, usedL st n k = usedL st' n k := by
    intro k
    induction k with
    | zero => rfl
    | succ k ih => unfold usedL; rw [ih, e]
  exact key n
def agP (T : Nat → ByteArray) (i : Nat) : List UInt8 := pgL 4 (T i).data.toList
def ag (T : Nat → ByteArray) : Nat → DkS
  | 0 => (wrHead (DkS.fresh 20) fmtH).1
  | j + 1 => (ag T j).wrote (j + 2) (agP T j)
theorem fmt_short : (headT fmtH).size ≤ 240 := headT_short fmtH fmtH_ok.u
theorem ag_ok (T : Nat → ByteArray) (j : Nat) (hj : j ≤ 8) : AgOk (ag T j) zs (hdL fmtH) (agP T) j := by
  induction j with
  | zero =>
    have hw := (wrHead_ok (DkS.fresh 20) fmtH rfl (by show (-1 : Int) ≠ 0; decide) (by show 8 ≤ (List.replicate 20 zs).length; rw [List.length_replicate]; decide) fmt_short (by decide)).2
    show AgOk (wrHead (DkS.fresh 20) fmtH).1 _ _ _ _
    rw [hw]
    have e : (fmtH.gen % 2).toNat = 1 := by decide
    rw [e]
    have hS : ((DkS.fresh 20).wrote 1 (hdL fmtH)).S = (List.replicate 20 zs).set 1 (hdL fmtH) := wrote_S _ _ _
    refine { up := ?_, fuse := ?_, len := ?_, s0 := ?_, s1 := ?_, pg := fun i hi => by omega }
    · show ((DkS.fresh 20).wrote 1 (hdL fmtH)).up = true
      rw [wrote_up]; rfl
    · show ((DkS.fresh 20).wrote 1 (hdL fmtH)).fuse = -1
      rw [wrote_fuse]; rfl
    · show ((DkS.fresh 20).wrote 1 (hdL fmtH)).S.length = 20
      rw [hS, List.length_set, List.length_replicate]
    · show ((DkS.fresh 20).wrote 1 (hdL fmtH)).S[0]? = some zs
      rw [hS, List.getElem?_set_ne (by decide)]; rfl
    · show ((DkS.fresh 20).wrote 1 (hdL fmtH)).S[1]? = some (hdL fmtH)
      rw [hS, List.getElem?_set_self (by rw [List.length_replicate]; decide)]
  | succ j ih => exact (ih (by omega)).wrote (by omega) _ rfl
theorem ag_write (T : Nat → ByteArray) (j : Nat) (hj : j < 8) (ht : (T j).size ≤ 240) : (hS (tk (j + 1))).write (ag T j) ((j + 2 : Nat) : Int) 4 (T j) = (ag T (j + 1), hS (tk (j + 1)), 0) := by
  have h := ag_ok T j (by omega)
  have hm : ((j + 2 : Nat) : Int) ∈ (hS (tk (j + 1))).fresh := (tk_mem (j + 1) (j + 2)).2 ⟨by omega, by omega⟩
  have hp := pgWr_ok (ag T j) (j + 2) 4 (T j) h.up (by rw [h.fuse]; decide) (by rw [h.len]; omega) (by decide) (by decide) ht
  unfold ShS.write
  rw [if_neg (by show ¬ (true : Bool) = false; decide), if_neg (fun hx => hx hm)]
  rw [show (4 : Int) = ((4 : Nat) : Int) from rfl, hp]
  dsimp only
  rw [told_0]
  rfl
def agU (m : Nat) : ByteArray := withAll fmtH.used (tk m) true
def agH (m : Nat) (r : Int) : HdS := ⟨2, r, agU m⟩
def agS (m : Nat) (r : Int) (L G : List Int) : ShS := ⟨agH m r, L, G, true⟩
theorem agU_size (m : Nat) : (agU m).size = 80 := by unfold agU; rw [withAll_size]; exact fmtH_ok.u
theorem agH_next (m : Nat) (r : Int) : nextH (hS (tk m)) r = agH m r := rfl
theorem agH_ok (m : Nat) (r : Int) (h0 : 0 ≤ r) (h2 : r ≤ 2) : HdOk (agH m r) := ⟨by show (0 : Int) ≤ 2; decide, by show (2 : Int) ≤ 281474976710655; decide, h0, by show r ≤ _; omega, agU_size m⟩
set_option maxRecDepth 100000 in
theorem ag_counts : ∀ m, m < 9 → countsB (agH m 0) 0 20 = true ∧ (0 < m → countsB (agH m 2) 0 20 = true) := by decide +kernel
set_option maxRecDepth 100000 in
theorem fmt_counts : countsB fmtH 1 20 = true := by decide +kernel
set_option maxRecDepth 100000 in
theorem ag_left : ∀ m, m < 9 → cntL (agU m).data.toList = m ∧ usedN (agS m 0 [] []) 20 = m ∧ freeB (agS m 0 [] []) ((m + 2 : Nat) : Int) = true ∧ (∀ k, k < m + 2 → 2 ≤ k → freeB (agS m 0 [] []) (k : Int) = false) ∧ ∀ i, i < m → hasB (agU m) ((i + 2 : Nat) : Int) = true := by decide +kernel
def agD (T : Nat → ByteArray) (m : Nat) (r : Int) : DkS := (wrHead (ag T m).sync.1 (agH m r)).1
theorem ag_commit (T : Nat → ByteArray) (m : Nat) (hm : m ≤ 8) (r : Int) (hr : r = 0 ∨ (r = 2 ∧ 0 < m)) : (hS (tk m)).commit (ag T m) r = (agD T m r, agS m r [] [], 0) := by
  have h := ag_ok T m hm
  have hy : mayB (hS (tk m)) r = true := by
    unfold mayB
    rcases hr with rfl | ⟨rfl, h0⟩
    · rfl
    · have : (2 : Int) ∈ (hS (tk m)).fresh := (tk_mem m 2).2 ⟨by omega, by omega⟩
      rw [decide_eq_true this]; simp
  exact (commit_ok (hS (tk m)) (ag T m) r rfl hy (by show (1 : Int) ≠ 281474976710655; decide) (by show (0 : Int) ≤ 1; decide) fmtH_ok.u h.up (by rw [h.fuse]; decide) (by rw [h.len]; decide)).1
theorem agD_ok (T : Nat → ByteArray) (m : Nat) (hm : m ≤ 8) (r : Int) : AgOk (agD T m r) (hdL (agH m r)) (hdL fmtH) (agP T) m := by
  have h := ag_ok T m hm
  have hs : (ag T m).sync = ({ ag T m with L := [] }, 0) := by unfold DkS.sync; rw [if_neg (by rw [h.up]; decide)]
  have hw := (wrHead_ok (ag T m).sync.1 (agH m r) (by rw [hs]; exact h.up) (by rw [hs]; show (ag T m).fuse ≠ 0; rw [h.fuse]; decide) (by rw [hs]; show 8 ≤ (ag T m).S.length; rw [h.len]; decide) (headT_short _ (agU_size m)) (by show (0 : Int) ≤ 2; decide)).2
  unfold agD
  rw [hw]
  have e : ((agH m r).gen % 2).toNat = 0 := by show ((2 : Int) % 2).toNat = 0; decide
  rw [e, hs]
  have hS : (DkS.wrote { ag T m with L := [] } 0 (hdL (agH m r))).S = (ag T m).S.set 0 (hdL (agH m r)) := wrote_S _ _ _
  refine { up := ?_, fuse := ?_, len := ?_, s0 := ?_, s1 := ?_, pg := fun i hi => ?_ }
  · show (DkS.wrote { ag T m with L := [] } 0 (hdL (agH m r))).up = true
    rw [wrote_up]; exact h.up
  · show (DkS.wrote { ag T m with L := [] } 0 (hdL (agH m r))).fuse = -1
    rw [wrote_fuse]; show (if 0 < (ag T m).fuse then (ag T m).fuse - 1 else (ag T m).fuse) = -1
    rw [h.fuse]; rfl
  · show (DkS.wrote { ag T m with L := [] } 0 (hdL (agH m r))).S.length = 20
    rw [hS, List.length_set]; exact h.len
  · show (DkS.wrote { ag T m with L := [] } 0 (hdL (agH m r))).S[0]? = _
    rw [hS, List.getElem?_set_self (by rw [h.len]; decide)]
  · show (DkS.wrote { ag T m with L := [] } 0 (hdL (agH m r))).S[1]? = _
    rw [hS, List.getElem?_set_ne (by decide)]; exact h.s1
  · show (DkS.wrote { ag T m with L := [] } 0 (hdL (agH m r))).S[i + 2]? = _
    rw [hS, List.getElem?_set_ne (by omega)]; exact h.pg i hi
def agE (T : Nat → ByteArray) (m : Nat) (r : Int) (t : ByteArray) : DkS := (agD T m r).wrote (m + 2) (pgL 5 t.data.toList)
theorem agE_ok (T : Nat → ByteArray) (m : Nat) (hm : m ≤ 8) (r : Int) (t : ByteArray) : AgOk (agE T m r t) (hdL (agH m r)) (hdL fmtH) (agP T) m := (agD_ok T m hm r).beside _
theorem ag_last (T : Nat → ByteArray) (m : Nat) (hm : m ≤ 8) (r : Int) (hr : r = 0 ∨ (r = 2 ∧ 0 < m)) (t : ByteArray) : mountE (agE T m r t) = 0 ∧ lastH (agE T m r t) = (agH m r, true) := by
  have h := agE_ok T m hm r t
  have hr2 : 0 ≤ r ∧ r ≤ 2 := by omega
  have h0 := rdHead_of (agE T m r t) 0 (agH m r) h.up h.s0 (agH_ok m r hr2.1 hr2.2) (by show r ≤ 65535; omega)
  have h1 := rdHead_of (agE T m r t) 1 fmtH h.up h.s1 fmtH_ok (by decide)
  rw [h.len] at h0 h1
  have c0 : countsB (agH m r) ((0 : Nat) : Int) ((20 : Nat) : Int) = true := by
    have := ag_counts m (by omega)
    rcases hr with rfl | ⟨rfl, hp⟩
    · exact this.1
    · exact this.2 hp
  have c1 : countsB fmtH ((1 : Nat) : Int) ((20 : Nat) : Int) = true := fmt_counts
  rw [c0] at h0
  rw [c1] at h1
  have hl := lastH_even (agE T m r t) (agH m r) fmtH true h0 h1 (by show (0 : Int) < 2; decide) (.inl (by show (1 : Int) ≤ 2; decide))
  refine ⟨?_, hl⟩
  unfold mountE
  rw [if_pos h.up, hl, if_pos rfl]
theorem agS_left (m : Nat) (hm : m ≤ 8) (r : Int) : leftN (agS m r [] []) 20 = 18 - (m : Int) := by
  have h := (ag_left m (by omega)).1
  unfold leftN
  show ((20 : Nat) : Int) - 2 - (cntL (agU m).data.toList : Int) - ((0 : Nat) : Int) = _
  rw [h]; omega
theorem agS_used (m : Nat) (hm : m ≤ 8) (r : Int) : usedN (agS m r [] []) 20 = m := (usedN_used' (agS m r [] []) (agS m 0 [] []) 20 rfl).trans (ag_left m (by omega)).2.1
theorem agS_free (m : Nat) (hm : m ≤ 8) (r : Int) : freeB (agS m r [] []) ((m + 2 : Nat) : Int) = true ∧ ∀ k, 2 ≤ k → k < m + 2 → freeB (agS m r [] []) (k : Int) = false :=
  ⟨(ag_left m (by omega)).2.2.1, fun k h1 h2 => (ag_left m (by omega)).2.2.2.1 k h2 h1⟩
theorem agS_write (T : Nat → ByteArray) (m : Nat) (hm : m ≤ 8) (r : Int) (t : ByteArray) (ht : t.size ≤ 240) : (agS m r [((m + 2 : Nat) : Int)] []).write (agD T m r) ((m + 2 : Nat) : Int) 5 t = (agE T m r t, agS m r [((m + 2 : Nat) : Int)] [], 0) := by
  have h := agD_ok T m hm r
  have hp := pgWr_ok (agD T m r) (m + 2) 5 t h.up (by rw [h.fuse]; decide) (by rw [h.len]; omega) (by decide) (by decide) ht
  unfold ShS.write
  rw [if_neg (by show ¬ (true : Bool) = false; decide), if_neg (fun hx => hx (List.mem_singleton.2 rfl))]
  rw [show (5 : Int) = ((5 : Nat) : Int) from rfl, hp]
  dsimp only
  rw [told_0]
  rfl
theorem agS_give (m : Nat) (hm : m ≤ 8) (r : Int) (q : Nat) (hq : q < m) : (agS m r [((m + 2 : Nat) : Int)] []).give ((q + 2 : Nat) : Int) = (agS m r [((m + 2 : Nat) : Int)] [((q + 2 : Nat) : Int)], 0) := by
  have hb : hasB (agS m r [((m + 2 : Nat) : Int)] []).h.used ((q + 2 : Nat) : Int) = true := (ag_left m (by omega)).2.2.2.2 q hq
  unfold ShS.give
  rw [if_neg (by show ¬ (true : Bool) = false; decide), if_neg (fun hx => by have := List.mem_singleton.1 (show ((q + 2 : Nat) : Int) ∈ [((m + 2 : Nat) : Int)] from hx); omega), if_pos ⟨hb, by show ¬ _ ∈ ([] : List Int); simp⟩]
  rfl
theorem agS_read (T : Nat → ByteArray) (m : Nat) (hm : m ≤ 8) (r : Int) (t : ByteArray) (j : Nat) (hj : j < m) (ht : (T j).size ≤ 240) : (agS m r [] []).read (agE T m r t) ((j + 2 : Nat) : Int) = (4, T j, 0) ∧ (agS m r [] []).reads (agE T m r t) ((j + 2 : Nat) : Int) = agS m r [] [] := by
  have h := agE_ok T m hm r t
  have hr := rd_page (agE T m r t) (j + 2) 4 (T j) h.up (h.pg j hj) (by decide) (by decide) ht
  have hc : ¬ (((j + 2 : Nat) : Int) < 2 ∨ ((agE T m r t).S.length : Int) ≤ ((j + 2 : Nat) : Int)) := by rw [h.len]; omega
  unfold ShS.read ShS.reads
  rw [if_neg (by show ¬ (true : Bool) = false; decide), if_neg hc, if_neg (by show ¬ (true : Bool) = false; decide), hr.1, hr.2.1, hr.2.2, told_0]
  exact ⟨rfl, ite_self _⟩
end Go.Proofs.YtbjmbndeaobbeaaDoor
