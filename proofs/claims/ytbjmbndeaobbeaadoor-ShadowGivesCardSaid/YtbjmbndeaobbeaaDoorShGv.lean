/-
  The law ShadowGives, in the model.
-/
import Derived.Test.YtbjmbndeaobbeaaDoorShE
namespace Go.Proofs.YtbjmbndeaobbeaaDoor
open Go.RowKit
set_option linter.unusedVariables false
set_option linter.unusedSimpArgs false
/-- A head is written where there is power. -/
theorem wrHead_ok (st : DkS) (h : HdS) (hu : st.up = true) (hf : st.fuse ≠ 0) (hl : 8 ≤ st.S.length) (hs : (headT h).size ≤ 240) (g0 : 0 ≤ h.gen) :
    (wrHead st h).2 = 0 ∧ (wrHead st h).1 = { (st.wrote (h.gen % 2).toNat (pgL 1 (headT h).data.toList)) with L := [] } := by
  have hB : sealB 1 (headT h) = true := (sealB_iff 1 (headT h)).2 ⟨by decide, by decide, hs⟩
  have hS : (sealS 1 (headT h)).data.toList = pgL 1 (headT h).data.toList := by
    unfold sealS; rw [if_pos hB, Str_list]; rfl
  have hlen : (pgL 1 (headT h).data.toList).length = 256 := pgL_length 1 _ (by have : (headT h).data.toList.length = (headT h).size := rfl; omega)
  obtain ⟨n, hn⟩ : ∃ n : Nat, h.gen % 2 = (n : Int) := ⟨(h.gen % 2).toNat, by omega⟩
  have hw := write_done st n (pgL 1 (headT h).data.toList) hu (by omega) hlen hf
  have hp : pgWr st (h.gen % 2) 1 (headT h) = (st.wrote n (pgL 1 (headT h).data.toList), 0) := by
    unfold pgWr
    rw [if_pos hB, hn, hS, hw]
  have hs' : (st.wrote n (pgL 1 (headT h).data.toList)).sync = ({ (st.wrote n (pgL 1 (headT h).data.toList)) with L := [] }, 0) := by
    unfold DkS.sync
    rw [if_neg (by rw [wrote_up, hu]; decide)]
  have e : wrHead st h = (st.wrote n (pgL 1 (headT h).data.toList)).sync := by
    unfold wrHead
    rw [hp, if_pos rfl]
  rw [e, hs', hn]
  exact ⟨rfl, rfl⟩
theorem headT_short (h : HdS) (hu : h.used.size = 80) : (headT h).size ≤ 240 := by
  unfold headT
  have h1 := put_short h.gen 6 (by decide) (by decide)
  have h2 := put_short h.root 2 (by decide) (by decide)
  rw [ByteArray.size_append, ByteArray.size_append]
  omega
theorem commit_ok (st : ShS) (dk : DkS) (root : Int) (hu : st.up = true) (hm : mayB st root = true) (hg : st.h.gen ≠ 281474976710655) (g0 : 0 ≤ st.h.gen) (hU : st.h.used.size = 80) (du : dk.up = true) (df : dk.fuse ≠ 0) (dl : 8 ≤ dk.S.length) :
    st.commit dk root = ((wrHead dk.sync.1 (nextH st root)).1, ⟨nextH st root, [], [], true⟩, 0) ∧ (wrHead dk.sync.1 (nextH st root)).1.S.length = dk.S.length := by
  have hs : dk.sync = ({ dk with L := [] }, 0) := by unfold DkS.sync; rw [if_neg (by rw [du]; decide)]
  have hnu : (nextH st root).used.size = 80 := by
    show (nextU st).size = 80
    unfold nextU
    rw [withAll_size, withAll_size]; exact hU
  have hw := wrHead_ok dk.sync.1 (nextH st root) (by rw [hs]; exact du) (by rw [hs]; exact df) (by rw [hs]; exact dl) (headT_short _ hnu) (by show 0 ≤ st.h.gen + 1; omega)
  constructor
  · unfold ShS.commit
    rw [if_neg (by rw [hu]; decide), if_neg (by rw [hm]; decide), if_neg hg, if_neg (by rw [hs]; exact fun h => h rfl), if_neg (by rw [hw.1]; exact fun h => h rfl), hu]
  · rw [hw.2]
    show (DkS.wrote _ _ _).S.length = _
    rw [wrote_S, List.length_set, hs]
def gvX : ByteArray := ⟨#[120]⟩
def gvT (st : ShS) (j : Nat) : ShS := { st with fresh := st.fresh ++ [((j + 2 : Nat) : Int)] }
/-- Nine pages are taken and written. -/
def gv : Nat → DkS × ShS
  | 0 => ((wrHead (DkS.fresh 12) fmtH).1, ShS.new fmtH)
  | j + 1 => (((gvT (gv j).2 j).write (gv j).1 ((j + 2 : Nat) : Int) 3 gvX).1, ((gvT (gv j).2 j).write (gv j).1 ((j + 2 : Nat) : Int) 3 gvX).2.1)
set_option maxRecDepth 100000 in
theorem gv_up : ∀ j, j < 9 → (gv j).2.up = true ∧ (gv j).1.S.length = 12 ∧ ((gvT (gv j).2 j).write (gv j).1 ((j + 2 : Nat) : Int) 3 gvX).2.2 = 0 := by decide +kernel
set_option maxRecDepth 100000 in
theorem gv_free : ∀ j, j < 9 → freeB (gv j).2 ((j + 2 : Nat) : Int) = true ∧ ∀ k, k < j + 2 → 2 ≤ k → freeB (gv j).2 (k : Int) = false := by decide +kernel
def gvD : DkS := ((gv 9).2.commit (gv 9).1 0).1
def gvS : ShS := ((gv 9).2.commit (gv 9).1 0).2.1
set_option maxRecDepth 100000 in
theorem gv_commit : ((gv 9).2.commit (gv 9).1 0).2.2 = 0 ∧ leftN gvS gvD.S.length = 1 ∧ gvS.given = [] ∧ gvS.fresh = [] ∧ gvS.up = true ∧ gvD.S.length = 12 ∧ gvD.up = true ∧ gvD.fuse = -1 := by decide +kernel
set_option maxRecDepth 100000 in
theorem gv_head : gvS.h.gen = 2 ∧ gvS.h.used.size = 80 ∧ (∀ j, j < 9 → hasB gvS.h.used ((j + 2 : Nat) : Int) = true) := by decide +kernel
set_option maxRecDepth 100000 in
theorem gv_read : ∀ j, j < 9 → rdK gvD ((j + 2 : Nat) : Int) = 3 ∧ rdT gvD ((j + 2 : Nat) : Int) = gvX ∧ rdE gvD ((j + 2 : Nat) : Int) = 0 := by decide +kernel
def subs : Nat → List (List Int)
  | 0 => [[]]
  | j + 1 => subs j ++ (subs j).map (· ++ [((j + 2 : Nat) : Int)])
theorem subs_lt (j : Nat) (L : List Int) (h : L ∈ subs j) : ((j + 2 : Nat) : Int) ∉ L ∧ ∀ x ∈ L, x < ((j + 2 : Nat) : Int) := by
  have key : ∀ j L, L ∈ subs j → ∀ x ∈ L, x < ((j + 2 : Nat) : Int) := by
    intro j
    induction j with
    | zero => intro L h x hx; simp [subs] at h; subst h; cases hx
    | succ j ih =>
      intro L h x hx
      unfold subs at h
      rcases List.mem_append.1 h with h | h
      · have := ih L h x hx; omega
      · obtain ⟨M, hM, rfl⟩ := List.mem_map.1 h
        rcases List.mem_append.1 hx with hx | hx
        · have := ih M hM x hx; omega
        · have := List.mem_singleton.1 hx; omega
  exact ⟨fun hx => by have := key j L h _ hx; omega, key j L h⟩
theorem subs_no {j : Nat} {L : List Int} (h : L ∈ subs j) : L ∈ subs (j + 1) := by unfold subs; exact List.mem_append_left _ h
theorem subs_yes {j : Nat} {L : List Int} (h : L ∈ subs j) : L ++ [((j + 2 : Nat) : Int)] ∈ subs (j + 1) := by
  unfold subs; exact List.mem_append_right _ (List.mem_map.2 ⟨L, h, rfl⟩)
def gvG (L : List Int) : ShS := { gvS with given := L }
theorem gv_0 : gv 0 = ((wrHead (DkS.fresh 12) fmtH).1, ShS.new fmtH) := rfl
theorem gv_succ (j : Nat) : gv (j + 1) = (((gvT (gv j).2 j).write (gv j).1 ((j + 2 : Nat) : Int) 3 gvX).1, ((gvT (gv j).2 j).write (gv j).1 ((j + 2 : Nat) : Int) 3 gvX).2.1) := rfl
theorem gvD_eq : ((gv 9).2.commit (gv 9).1 0).1 = gvD := rfl
theorem gvS_eq : ((gv 9).2.commit (gv 9).1 0).2.1 = gvS := rfl
attribute [irreducible] gv gvS gvD
def gvC (L : List Int) : ShS := ⟨nextH (gvG L) 0, [], [], true⟩
def gvB : ByteArray := gvS.h.used
theorem nextU_given (st : ShS) (L : List Int) (hf : st.fresh = []) : nextU { st with given := L } = withAll st.h.used L false := by
  cases st
  subst hf
  rfl
theorem gvC_used (L : List Int) : (gvC L).h.used = withAll gvB L false := nextU_given gvS L gv_commit.2.2.2.1
theorem cnt_gv (h : HdS) (n : Nat) : leftN ⟨h, [], [], true⟩ n = (n : Int) - 2 - (cntL h.used.data.toList : Int) := by
  show (n : Int) - 2 - (cntL h.used.data.toList : Int) - ((0 : Nat) : Int) = _
  omega
/-- What a set of the law's leaves. -/
def gvOk (L : List Int) : Bool := (cntL (withAll gvB L false).data.toList == 9 - L.length) && decide (L.length ≤ 9) && (usedN ⟨⟨0, 0, withAll gvB L false⟩, [], [], true⟩ 12 == 9 - L.length) && !hasB (withAll gvB L false) 11 && !hasB (withAll gvB L false) 0
set_option maxRecDepth 100000 in
theorem gv_sets : (subs 9).all gvOk = true := by decide +kernel
theorem usedN_used (st st' : ShS) (n : Nat) (e : st.h.used = st'.h.used) : usedN st n = usedN st' n := by
  unfold usedN
  have key : ∀ k, usedL st n k = usedL st' n k := by
    intro k
    induction k with
    | zero => rfl
    | succ k ih => unfold usedL; rw [ih, e]
  exact key n
theorem give_none (h : HdS) (n : Int) (hb : hasB h.used n = false) : (⟨h, [], [], true⟩ : ShS).give n = (⟨h, [], [], true⟩, 6) := by
  unfold ShS.give
  rw [if_neg (by show ¬ (true : Bool) = false; decide), if_neg (by show ¬ n ∈ ([] : List Int); simp), if_neg]
  show ¬ (hasB h.used n = true ∧ _)
  rw [hb]; simp
theorem gvC_facts (L : List Int) (h : L ∈ subs 9) : leftN (gvC L) 12 = 1 + (L.length : Int) ∧ (usedN (gvC L) 12 : Int) = 9 - (L.length : Int) ∧ (gvC L).give 11 = (gvC L, 6) ∧ (gvC L).give 0 = (gvC L, 6) ∧ hasB (gvC L).h.used 11 = false ∧ hasB (gvC L).h.used 0 = false ∧ L.length ≤ 9 := by
  have hk := List.all_eq_true.1 gv_sets L h
  unfold gvOk at hk
  simp only [Bool.and_eq_true, beq_iff_eq, Bool.not_eq_true', decide_eq_true_eq] at hk
  obtain ⟨⟨⟨⟨h1, h2⟩, h3⟩, h4⟩, h5⟩ := hk
  have hu := gvC_used L
  refine ⟨?_, ?_, ?_, ?_, by rw [hu]; exact h4, by rw [hu]; exact h5, h2⟩
  · unfold gvC
    rw [cnt_gv]
    have e : (nextH (gvG L) 0).used = withAll gvB L false := hu
    rw [e, h1]; omega
  · rw [usedN_used (gvC L) ⟨⟨0, 0, withAll gvB L false⟩, [], [], true⟩ 12 hu, h3]; omega
  · exact give_none _ 11 (by have : (nextH (gvG L) 0).used = withAll gvB L false := hu; rw [this]; exact h4)
  · exact give_none _ 0 (by have : (nextH (gvG L) 0).used = withAll gvB L false := hu; rw [this]; exact h5)
theorem gvG_up (L : List Int) : (gvG L).up = true := gv_commit.2.2.2.2.1
theorem gvG_fresh (L : List Int) : (gvG L).fresh = [] := gv_commit.2.2.2.1
theorem gvG_write (L : List Int) (n k : Int) (t : ByteArray) : (gvG L).write gvD n k t = (gvD, gvG L, 6) := by
  unfold ShS.write
  rw [if_neg (by rw [gvG_up]; decide), if_pos (by rw [gvG_fresh]; simp)]
theorem gvG_give (L : List Int) (j : Nat) (hj : j < 9) (h : L ∈ subs j) : (gvG L).give ((j + 2 : Nat) : Int) = (gvG (L ++ [((j + 2 : Nat) : Int)]), 0) := by
  have hb : hasB (gvG L).h.used ((j + 2 : Nat) : Int) = true := gv_head.2.2 j hj
  have hn : ((j + 2 : Nat) : Int) ∉ (gvG L).given := (subs_lt j L h).1
  unfold ShS.give
  rw [if_neg (by rw [gvG_up]; decide), if_neg (by rw [gvG_fresh]; simp), if_pos ⟨hb, hn⟩]
  rfl
theorem gvG_again (L : List Int) (n : Int) (h : n ∈ L) : (gvG L).give n = (gvG L, 6) := by
  unfold ShS.give
  rw [if_neg (by rw [gvG_up]; decide), if_neg (by rw [gvG_fresh]; simp), if_neg (fun hx => hx.2 h)]
theorem gvG_read (L : List Int) (j : Nat) (hj : j < 9) : (gvG L).read gvD ((j + 2 : Nat) : Int) = (3, gvX, 0) ∧ (gvG L).reads gvD ((j + 2 : Nat) : Int) = gvG L := by
  have hl := gv_commit.2.2.2.2.2.1
  have hr := gv_read j hj
  have hc : ¬ (((j + 2 : Nat) : Int) < 2 ∨ (gvD.S.length : Int) ≤ ((j + 2 : Nat) : Int)) := by rw [hl]; omega
  unfold ShS.read ShS.reads
  rw [if_neg (by rw [gvG_up]; decide), if_neg hc, if_neg (by rw [gvG_up]; decide), hr.1, hr.2.1, hr.2.2, told_0]
  exact ⟨rfl, ite_self _⟩
theorem gvG_left (L : List Int) : leftN (gvG L) gvD.S.length = 1 := gv_commit.2.1
theorem gvG_commit (L : List Int) : (gvG L).commit gvD 0 = ((wrHead gvD.sync.1 (nextH (gvG L) 0)).1, gvC L, 0) ∧ (wrHead gvD.sync.1 (nextH (gvG L) 0)).1.S.length = 12 := by
  have hg : (gvG L).h.gen = 2 := gv_head.1
  have h := commit_ok (gvG L) gvD 0 (gvG_up L) (by unfold mayB; simp) (by rw [hg]; decide) (by rw [hg]; decide) gv_head.2.1 gv_commit.2.2.2.2.2.2.1 (by rw [gv_commit.2.2.2.2.2.2.2]; decide) (by rw [gv_commit.2.2.2.2.2.1]; decide)
  exact ⟨h.1, h.2.trans gv_commit.2.2.2.2.2.1⟩
theorem gvG_start : gvS = gvG [] := by
  have h := gv_commit.2.2.1
  unfold gvG
  generalize gvS = s at h
  cases s
  subst h
  rfl
end Go.Proofs.YtbjmbndeaobbeaaDoor
