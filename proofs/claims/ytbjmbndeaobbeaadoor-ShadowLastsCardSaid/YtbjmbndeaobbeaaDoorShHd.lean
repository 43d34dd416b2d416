/-
  Heads and pages on a disk, in the model: what is written is read; the store of a law.
-/
import Derived.Test.YtbjmbndeaobbeaaDoorShE
namespace Go.Proofs.YtbjmbndeaobbeaaDoor
open Go.RowKit
set_option linter.unusedVariables false
set_option linter.unusedSimpArgs false
/-- A head is written where there is power. -/
theorem wrHead_ok (st : DkS) (h : HdS) (hu : st.up = true) (hf : st.fuse ≠ 0) (hl : 8 ≤ st.S.length) (hs : (headT h).size ≤ 240) (g0 : 0 ≤ h.gen) :
    (wrHead st h).2 = 0 ∧ (wrHead st h).1 = { (st.wrote (h.gen % 2).toNat (pgL 1 (headT h).data.toList)) with L := [] } := by
  have hB : sealB 1 (headT h) = true := (sealB_iff 1 (headT h)).2 ⟨by decide, by decide, hs⟩
  have hS : (sealS 1 (headT h)).data.toList = pgL 1 (headT h).data.toList := by
    unfold sealS; rw [if_pos hB, Str_list]; rfl
  have hlen : (pgL 1 (headT h).data.toList).length = 256 := pgL_length 1 _ (by have : (headT h).data.toList.length = (headT h).size := rfl; omega)
  obtain ⟨n, hn⟩ : ∃ n : Nat, h.gen % 2 = (n : Int) := ⟨(h.gen % 2).toNat, by omega⟩
  have hw := write_done st n (pgL 1 (headT h).data.toList) hu (by omega) hlen hf
  have hp : pgWr st (h.gen % 2) 1 (headT h) = (st.wrote n (pgL 1 (headT h).data.toList), 0) := by
    unfold pgWr
    rw [if_pos hB, hn, hS, hw]
  have hs' : (st.wrote n (pgL 1 (headT h).data.toList)).sync = ({ (st.wrote n (pgL 1 (headT h).data.toList)) with L := [] }, 0) := by
    unfold DkS.sync
    rw [if_neg (by rw [wrote_up, hu]; decide)]
  have e : wrHead st h = (st.wrote n (pgL 1 (headT h).data.toList)).sync := by
    unfold wrHead
    rw [hp, if_pos rfl]
  rw [e, hs', hn]
  exact ⟨rfl, rfl⟩
theorem headT_short (h : HdS) (hu : h.used.size = 80) : (headT h).size ≤ 240 := by
  unfold headT
  have h1 := put_short h.gen 6 (by decide) (by decide)
  have h2 := put_short h.root 2 (by decide) (by decide)
  rw [ByteArray.size_append, ByteArray.size_append]
  omega
theorem commit_ok (st : ShS) (dk : DkS) (root : Int) (hu : st.up = true) (hm : mayB st root = true) (hg : st.h.gen ≠ 281474976710655) (g0 : 0 ≤ st.h.gen) (hU : st.h.used.size = 80) (du : dk.up = true) (df : dk.fuse ≠ 0) (dl : 8 ≤ dk.S.length) :
    st.commit dk root = ((wrHead dk.sync.1 (nextH st root)).1, ⟨nextH st root, [], [], true⟩, 0) ∧ (wrHead dk.sync.1 (nextH st root)).1.S.length = dk.S.length := by
  have hs : dk.sync = ({ dk with L := [] }, 0) := by unfold DkS.sync; rw [if_neg (by rw [du]; decide)]
  have hnu : (nextH st root).used.size = 80 := by
    show (nextU st).size = 80
    unfold nextU
    rw [withAll_size, withAll_size]; exact hU
  have hw := wrHead_ok dk.sync.1 (nextH st root) (by rw [hs]; exact du) (by rw [hs]; exact df) (by rw [hs]; exact dl) (headT_short _ hnu) (by show 0 ≤ st.h.gen + 1; omega)
  constructor
  · unfold ShS.commit
    rw [if_neg (by rw [hu]; decide), if_neg (by rw [hm]; decide), if_neg hg, if_neg (by rw [hs]; exact fun h => h rfl), if_neg (by rw [hw.1]; exact fun h => h rfl), hu]
  · rw [hw.2]
    show (DkS.wrote _ _ _).S.length = _
    rw [wrote_S, List.length_set, hs]
theorem fmt_cnt : cntL fmtH.used.data.toList = 0 := by decide +kernel
theorem fmt_has (i : Int) : hasB fmtH.used i = false := by
  show hasB (Str (List.replicate 80 0)) i = false
  unfold hasB bitL
  rw [Str_list]
  split
  · rw [List.getElem_replicate]
    simp
  · simp
/-- The first k pages. -/
def tk : Nat → List Int
  | 0 => []
  | k + 1 => tk k ++ [((k + 2 : Nat) : Int)]
theorem tk_len (k : Nat) : (tk k).length = k := by
  induction k with
  | zero => rfl
  | succ k ih => unfold tk; rw [List.length_append, ih]; rfl
theorem tk_mem (k : Nat) (i : Nat) : (i : Int) ∈ tk k ↔ 2 ≤ i ∧ i < k + 2 := by
  induction k with
  | zero => simp [tk] <;> omega
  | succ k ih => unfold tk; rw [List.mem_append, ih]; simp; omega
def hS (L : List Int) : ShS := { ShS.new fmtH with fresh := L }
theorem hS_free (L : List Int) (i : Int) : freeB (hS L) i = !decide (i ∈ L) := by
  unfold freeB
  rw [show (hS L).h.used = fmtH.used from rfl, fmt_has]
  rfl
theorem hS_left (L : List Int) (n : Nat) : leftN (hS L) n = (n : Int) - 2 - (L.length : Int) := by
  unfold leftN
  rw [show (hS L).h.used = fmtH.used from rfl, fmt_cnt]
  show (n : Int) - 2 - ((0 : Nat) : Int) - (L.length : Int) = _
  omega
theorem hS_used (L : List Int) (n : Nat) : usedN (hS L) n = 0 := by
  unfold usedN
  have key : ∀ k, usedL (hS L) n k = 0 := by
    intro k
    induction k with
    | zero => rfl
    | succ k ih =>
      unfold usedL
      rw [ih, show (hS L).h.used = fmtH.used from rfl, fmt_has]
      simp
  exact key n
theorem hS_give (L : List Int) (i : Int) (h : i ∈ L) : (hS L).give i = (hS (L.filter fun x => decide (x ≠ i)), 0) := by
  unfold ShS.give
  rw [if_neg (by show ¬ (true : Bool) = false; decide), if_pos (show i ∈ (hS L).fresh from h)]
  rfl
theorem hS_give_no (L : List Int) (i : Int) (h : i ∉ L) : (hS L).give i = (hS L, 6) := by
  unfold ShS.give
  rw [if_neg (by show ¬ (true : Bool) = false; decide), if_neg (show ¬ i ∈ (hS L).fresh from h), if_neg]
  rw [show (hS L).h.used = fmtH.used from rfl, fmt_has]
  simp
def hdL (h : HdS) : List UInt8 := pgL 1 (headT h).data.toList
theorem parse_head (h : HdS) (ok : HdOk h) (hr : h.root ≤ 65535) : parseH (headT h) = h ∧ (headT h).size = 88 := by
  obtain ⟨g, r, u⟩ := h
  obtain ⟨g0, g1, r0, r1, hu⟩ := ok
  dsimp only at *
  have p6 : putOk g 6 = true := by
    obtain ⟨m, rfl⟩ := Int.eq_ofNat_of_zero_le g0
    exact (putOk_nat m 6).2 ⟨by decide, by decide, by have e : (256 : Nat) ^ (6 : Int).toNat = 281474976710656 := by decide
                                                      rw [e]; omega⟩
  have p2 : putOk r 2 = true := by
    obtain ⟨m, rfl⟩ := Int.eq_ofNat_of_zero_le r0
    exact (putOk_nat m 2).2 ⟨by decide, by decide, by have e : (256 : Nat) ^ (2 : Int).toNat = 65536 := by decide
                                                      rw [e]; omega⟩
  have n6 := pt_n (Str (putL r 2) ++ u) g0 p6
  have n2 := pt_n u r0 p2
  have s6 := pt_size p6
  have s2 := pt_size p2
  have e : headT ⟨g, r, u⟩ = Str (putL g 6) ++ (Str (putL r 2) ++ u) := by
    unfold headT; dsimp only; rw [ByteArray.append_assoc]
  rw [e]
  constructor
  · unfold parseH
    rw [n6.2, n6.1, n2.1, n2.2]
  · rw [ByteArray.size_append, ByteArray.size_append]; omega
theorem rd_page (st : DkS) (n k : Nat) (t : ByteArray) (hu : st.up = true) (hS : st.S[n]? = some (pgL k t.data.toList)) (k1 : 1 ≤ k) (k2 : k ≤ 15) (ht : t.size ≤ 240) : rdE st (n : Int) = 0 ∧ rdK st (n : Int) = (k : Int) ∧ rdT st (n : Int) = t := by
  obtain ⟨hn, hg⟩ := List.getElem?_eq_some_iff.1 hS
  have hr := read_done st n hu hn
  rw [hg] at hr
  have hb := pg_back k t.data.toList k1 k2 (by have : t.data.toList.length = t.size := rfl; omega)
  have hK : opK (pgL k t.data.toList) = k := by unfold opK; rw [if_pos hb.1]; exact hb.2.1
  have hT : opT (pgL k t.data.toList) = t.data.toList := by unfold opT; rw [if_pos hb.1]; exact hb.2.2
  unfold rdE rdK rdT
  rw [hr]
  dsimp only
  rw [if_pos rfl, if_pos rfl, if_pos rfl, hb.1, hK, hT]
  exact ⟨rfl, rfl, Str_of t⟩
theorem rdHead_of (st : DkS) (n : Nat) (h : HdS) (hu : st.up = true) (hS : st.S[n]? = some (hdL h)) (ok : HdOk h) (hr : h.root ≤ 65535) : rdHead st (n : Int) = (h, countsB h (n : Int) (st.S.length : Int)) := by
  have hp := parse_head h ok hr
  obtain ⟨e0, e1, e2⟩ := rd_page st n 1 (headT h) hu hS (by decide) (by decide) (by omega)
  unfold rdHead
  rw [if_pos ⟨e0, e1, by rw [e2]; exact hp.2⟩, e2, hp.1]
set_option maxRecDepth 100000 in
theorem opE_zs : opE zs ≠ 0 := by decide +kernel
theorem rdHead_zs (st : DkS) (n : Nat) (hu : st.up = true) (hS : st.S[n]? = some zs) : rdHead st (n : Int) = (zeroH, false) := by
  obtain ⟨hn, hg⟩ := List.getElem?_eq_some_iff.1 hS
  have hr := read_done st n hu hn
  rw [hg] at hr
  unfold rdHead
  rw [if_neg]
  intro hx
  have h0 := hx.1
  unfold rdE at h0
  rw [hr] at h0
  dsimp only at h0
  rw [if_pos rfl] at h0
  exact opE_zs (by omega)
theorem lastH_two (st : DkS) : lastH st = stepH (stepH (zeroH, false) (rdHead st 0)) (rdHead st 1) := rfl
/-- The head of sector 0 is the newer one. -/
theorem lastH_even (st : DkS) (h h' : HdS) (b : Bool) (h0 : rdHead st 0 = (h, true)) (h1 : rdHead st 1 = (h', b)) (hg : 0 < h.gen) (hl : h'.gen ≤ h.gen ∨ b = false) : lastH st = (h, true) := by
  rw [lastH_two, h0, h1]
  have e : stepH (zeroH, false) (h, true) = (h, true) := by
    unfold stepH; rw [if_pos ⟨rfl, hg⟩]
  rw [e]
  unfold stepH
  rw [if_neg]
  intro hx
  rcases hl with hl | hl
  · have := hx.2; dsimp only at this; omega
  · rw [hl] at hx; cases hx.1
theorem lastH_odd (st : DkS) (h h' : HdS) (b : Bool) (h0 : rdHead st 0 = (h', b)) (h1 : rdHead st 1 = (h, true)) (hg : 0 < h.gen) (hl : h'.gen < h.gen ∨ b = false) : lastH st = (h, true) := by
  rw [lastH_two, h0, h1]
  have key : (stepH (zeroH, false) (h', b)).1.gen < h.gen := by
    unfold stepH
    by_cases hc : (h', b).2 = true ∧ (zeroH, false).1.gen < (h', b).1.gen
    · rw [if_pos hc]
      rcases hl with hl | hl
      · exact hl
      · rw [hl] at hc; cases hc.1
    · rw [if_neg hc]; exact hg
  generalize stepH (zeroH, false) (h', b) = l at key
  unfold stepH
  rw [if_pos ⟨rfl, key⟩]
theorem pgWr_ok (st : DkS) (n k : Nat) (t : ByteArray) (hu : st.up = true) (hf : st.fuse ≠ 0) (hn : n < st.S.length) (k1 : 1 ≤ k) (k2 : k ≤ 15) (ht : t.size ≤ 240) : pgWr st (n : Int) (k : Int) t = (st.wrote n (pgL k t.data.toList), 0) := by
  have hB : sealB (k : Int) t = true := (sealB_iff (k : Int) t).2 ⟨by omega, by omega, ht⟩
  have hS : (sealS (k : Int) t).data.toList = pgL k t.data.toList := by
    unfold sealS; rw [if_pos hB, Str_list]; rfl
  have hlen : (pgL k t.data.toList).length = 256 := pgL_length k _ (by have : t.data.toList.length = t.size := rfl; omega)
  unfold pgWr
  rw [if_pos hB, hS, write_done st n _ hu hn hlen hf]
end Go.Proofs.YtbjmbndeaobbeaaDoor
