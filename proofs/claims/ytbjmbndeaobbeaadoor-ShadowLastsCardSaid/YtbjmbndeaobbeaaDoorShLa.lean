/-
  The law ShadowLasts, in the model.
-/
import Derived.Test.YtbjmbndeaobbeaaDoorShAg
import Derived.Test.YtbjmbndeaobbeaaDoorDiskL
namespace Go.Proofs.YtbjmbndeaobbeaaDoor
open Go.RowKit
set_option linter.unusedVariables false
set_option linter.unusedSimpArgs false
theorem DSL.dkL {w0 w : World} {d s : Nat} {dk : DkS} {st : ShS} (h : DSL w0 w d s dk st) : DkL w0 w d dk := by
  obtain ⟨FD, FS, h1, h2, h3, h4⟩ := h
  exact ⟨FD, h1.dk, h2, h3⟩
theorem fuseS_L {w0 w : World} {d s : Nat} {dk : DkS} {st : ShS} (h : DSL w0 w d s dk st) (n v : Int) (hv : (n < -1 ∧ v = -1) ∨ (-1 ≤ n ∧ v = n)) (hn : n ≤ 9223372036854775807) :
    Calls Tryd.prog 9 #[.pointer (some ⟨d, 0, none⟩), .int .i64 n] w fun e w' => e = .returned (.tuple #[]) ∧ DSL w0 w' d s { dk with fuse := v } st := by
  obtain ⟨FD, FS, h1, hb, h3, h4⟩ := h
  exact (fuse_is w d dk FD h1.dk n v hv hn).mono fun e w' hp => ⟨hp.1, DSL.post hb h3 h4 (DSPost.disk h1 hp.2)⟩
theorem mountD_L {w0 w : World} {d : Nat} {dk : DkS} (h : DkL w0 w d dk) (h0 : mountE dk = 0) :
    Calls Tryd.prog 17 #[.pointer (some ⟨d, 0, none⟩)] w fun e w' => ∃ s', e = .returned (.tuple #[.pointer (some ⟨s', 0, none⟩), .int .i64 0]) ∧ DSL w0 w' d s' dk (ShS.new (lastH dk).1) := by
  obtain ⟨FD, h1, hb, h3⟩ := h
  refine (mount_is w d dk FD h1).mono fun e w' hp => ?_
  obtain ⟨v, he, hbn⟩ := hp.1 h0
  obtain ⟨s', rfl, hs⟩ := born_L hb h3 hbn
  exact ⟨s', he, hs⟩
def laN (k : Nat) : Nat := if k % 2 = 0 then 2 else 3
def laR : Nat → Nat
  | 0 => 0
  | k + 1 => laN k
def laU : Nat → ByteArray
  | 0 => fmtH.used
  | k + 1 => withAll fmtH.used [(laN k : Int)] true
def laH (k : Nat) : HdS := ⟨((k + 1 : Nat) : Int), (laR k : Int), laU k⟩
def laS (k : Nat) (L G : List Int) : ShS := ⟨laH k, L, G, true⟩
def laG (k : Nat) : List Int := if k = 0 then [] else [(laR k : Int)]
set_option maxRecDepth 100000 in
theorem la_dec : ∀ k, k < 13 → freeB (laS k [] []) (laN k : Int) = true ∧ (∀ j, j < laN k → 2 ≤ j → freeB (laS k [] []) (j : Int) = false) ∧ countsB (laH k) (((k + 1) % 2 : Nat) : Int) 20 = true ∧
    cntL (laU k).data.toList = (if k = 0 then 0 else 1) ∧ usedN (laS k [] []) 20 = (if k = 0 then 0 else 1) ∧ (0 < k → hasB (laU k) (laR k : Int) = true) ∧ nextU ⟨laH k, [(laN k : Int)], laG k, true⟩ = laU (k + 1) := by decide +kernel
theorem laU_size (k : Nat) : (laU k).size = 80 := by
  cases k with
  | zero => exact fmtH_ok.u
  | succ k => unfold laU; rw [withAll_size]; exact fmtH_ok.u
theorem laH_used (k : Nat) : (laH k).used = laU k := rfl
theorem laH_size (k : Nat) : (headT (laH k)).size ≤ 240 := headT_short _ (by rw [laH_used]; exact laU_size k)
theorem laN_in (k : Nat) : 2 ≤ laN k ∧ laN k ≤ 3 := by unfold laN; split <;> omega
theorem laR_le (k : Nat) : laR k ≤ 3 := by
  cases k with
  | zero => exact Nat.zero_le _
  | succ k => exact (laN_in k).2
theorem laR_ne (k : Nat) : laR k ≠ laN k := by
  cases k with
  | zero =>
    have h := laN_in 0
    show (0 : Nat) ≠ laN 0
    omega
  | succ k =>
    show laN k ≠ laN (k + 1)
    unfold laN
    by_cases h : k % 2 = 0
    · rw [if_pos h, if_neg (by omega)]; decide
    · rw [if_neg h, if_pos (by omega)]; decide
theorem laH_ok (k : Nat) (hk : k < 13) : HdOk (laH k) := by
  have := laR_le k
  exact ⟨by show (0 : Int) ≤ ((k + 1 : Nat) : Int); omega, by show ((k + 1 : Nat) : Int) ≤ 281474976710655; omega, by show (0 : Int) ≤ (laR k : Int); omega, by show (laR k : Int) ≤ 281474976710655; omega, laU_size k⟩
theorem laH_next (k : Nat) (hk : k < 13) : nextH (laS k [(laN k : Int)] (laG k)) (laN k : Int) = laH (k + 1) := by
  show HdS.mk (((k + 1 : Nat) : Int) + 1) (laN k : Int) (nextU ⟨laH k, [(laN k : Int)], laG k, true⟩) = _
  rw [(la_dec k hk).2.2.2.2.2.2]
  rfl
/-- A disk on which k commits have been done. -/
structure LaOk (dk : DkS) (k : Nat) (T : Nat → ByteArray) : Prop where
  len : dk.S.length = 20
  cur : dk.S[(k + 1) % 2]? = some (hdL (laH k))
  oth : (k = 0 ∧ dk.S[0]? = some zs) ∨ ∃ j, k = j + 1 ∧ dk.S[k % 2]? = some (hdL (laH j))
  pg : ∀ j, k = j + 1 → dk.S[laR k]? = some (pgL 2 (T j).data.toList)
  loose : dk.L = []
theorem LaOk.turn {dk dk' : DkS} {k : Nat} {T : Nat → ByteArray} (h : LaOk dk k T) (hS : dk'.S = dk.S) (hL : dk'.L = []) : LaOk dk' k T := by
  obtain ⟨h1, h2, h3, h4, h5⟩ := h
  rw [← hS] at h1 h2 h3 h4
  exact ⟨h1, h2, h3, h4, hL⟩
theorem LaOk.start (T : Nat → ByteArray) (v : Int) : LaOk { (wrHead (DkS.fresh 20) fmtH).1 with fuse := v } 0 T := by
  have h := ag_ok T 0 (by decide)
  have hw := (wrHead_ok (DkS.fresh 20) fmtH rfl (by show (-1 : Int) ≠ 0; decide) (by show 8 ≤ (List.replicate 20 zs).length; rw [List.length_replicate]; decide) fmt_short (by decide)).2
  have hL : (wrHead (DkS.fresh 20) fmtH).1.L = [] := by rw [hw]
  have e : (wrHead (DkS.fresh 20) fmtH).1 = ag T 0 := rfl
  rw [e] at hL ⊢
  generalize ag T 0 = y at h hL ⊢
  exact { len := h.len, cur := h.s1, oth := .inl ⟨rfl, h.s0⟩, pg := fun j hj => by omega, loose := hL }
theorem LaOk.last {dk : DkS} {k : Nat} {T : Nat → ByteArray} (h : LaOk dk k T) (hk : k < 13) (hu : dk.up = true) : mountE dk = 0 ∧ lastH dk = (laH k, true) := by
  have h0 := rdHead_of dk ((k + 1) % 2) (laH k) hu h.cur (laH_ok k hk) (by have := laR_le k; show (laR k : Int) ≤ 65535; omega)
  rw [h.len, show ((20 : Nat) : Int) = 20 from rfl, (la_dec k hk).2.2.1] at h0
  have hl : lastH dk = (laH k, true) := by
    rcases h.oth with ⟨rfl, hz⟩ | ⟨j, rfl, hj⟩
    · exact lastH_odd dk (laH 0) zeroH false (rdHead_zs dk 0 hu hz) h0 (by decide) (.inr rfl)
    · have h1 := rdHead_of dk ((j + 1) % 2) (laH j) hu hj (laH_ok j (by omega)) (by have := laR_le j; show (laR j : Int) ≤ 65535; omega)
      rcases Nat.mod_two_eq_zero_or_one (j + 1) with e | e
      · have e2 : (j + 1 + 1) % 2 = 1 := by omega
        rw [e] at h1
        rw [e2] at h0
        exact lastH_odd dk (laH (j + 1)) (laH j) _ h1 h0 (by show (0 : Int) < ((j + 1 + 1 : Nat) : Int); omega) (.inl (by show ((j + 1 : Nat) : Int) < ((j + 1 + 1 : Nat) : Int); omega))
      · have e2 : (j + 1 + 1) % 2 = 0 := by omega
        rw [e] at h1
        rw [e2] at h0
        exact lastH_even dk (laH (j + 1)) (laH j) _ h0 h1 (by show (0 : Int) < ((j + 1 + 1 : Nat) : Int); omega) (.inl (by show ((j + 1 : Nat) : Int) ≤ ((j + 1 + 1 : Nat) : Int); omega))
  refine ⟨?_, hl⟩
  unfold mountE
  rw [if_pos hu, hl, if_pos rfl]
theorem LaOk.next {dk dk' : DkS} {k : Nat} {T : Nat → ByteArray} (h : LaOk dk k T) (hS : dk'.S = (dk.S.set (laN k) (pgL 2 (T k).data.toList)).set (k % 2) (hdL (laH (k + 1)))) (hL : dk'.L = []) : LaOk dk' (k + 1) T := by
  have hn := laN_in k
  have hl := h.len
  refine { len := by rw [hS, List.length_set, List.length_set]; exact hl, cur := ?_, oth := .inr ⟨k, rfl, ?_⟩, pg := fun j hj => ?_, loose := hL }
  · rw [show (k + 1 + 1) % 2 = k % 2 by omega, hS, List.getElem?_set_self (by rw [List.length_set]; omega)]
  · rw [hS, List.getElem?_set_ne (by omega), List.getElem?_set_ne (by omega)]
    exact h.cur
  · obtain rfl : k = j := by omega
    show dk'.S[laN k]? = _
    rw [hS, List.getElem?_set_ne (by omega), List.getElem?_set_self (by omega)]
theorem LaOk.paged {dk dk' : DkS} {k : Nat} {T : Nat → ByteArray} (h : LaOk dk k T) (x : List UInt8) (hS : dk'.S = dk.S.set (laN k) x) (hL : dk'.L = []) : LaOk dk' k T := by
  have hn := laN_in k
  have hr := laR_ne k
  refine { len := by rw [hS, List.length_set]; exact h.len, cur := ?_, oth := ?_, pg := fun j hj => ?_, loose := hL }
  · rw [hS, List.getElem?_set_ne (by omega)]; exact h.cur
  · rcases h.oth with ⟨e, hz⟩ | ⟨j, e, hj⟩
    · exact .inl ⟨e, by rw [hS, List.getElem?_set_ne (by omega)]; exact hz⟩
    · exact .inr ⟨j, e, by rw [hS, List.getElem?_set_ne (by omega)]; exact hj⟩
  · rw [hS, List.getElem?_set_ne (Ne.symm hr)]; exact h.pg j hj
theorem pgWr_blown (st : DkS) (n k : Nat) (t : ByteArray) (hu : st.up = true) (hf : st.fuse = 0) (hn : n < st.S.length) (k1 : 1 ≤ k) (k2 : k ≤ 15) (ht : t.size ≤ 240) : pgWr st (n : Int) (k : Int) t = ({ st with up := false }, 5) := by
  have hB : sealB (k : Int) t = true := (sealB_iff (k : Int) t).2 ⟨by omega, by omega, ht⟩
  have hS : (sealS (k : Int) t).data.toList = pgL k t.data.toList := by
    unfold sealS; rw [if_pos hB, Str_list]; rfl
  have hlen : (pgL k t.data.toList).length = 256 := pgL_length k _ (by have : t.data.toList.length = t.size := rfl; omega)
  unfold pgWr
  rw [if_pos hB, hS]
  unfold DkS.write
  rw [if_neg (by rw [hu]; simp), if_neg (by rw [hlen]; simp; omega), if_pos hf]
/-- One write of a page: done, or the power goes. -/
def LaW (dk : DkS) (k : Nat) (T : Nat → ByteArray) (r : DkS × ShS × Int) : Prop :=
  (dk.fuse ≠ 0 ∧ r = (dk.wrote (laN k) (pgL 2 (T k).data.toList), laS k [(laN k : Int)] [], 0)) ∨ (r.2.2 = 5 ∧ LaOk r.1 k T ∧ r.1.up = false)
theorem la_write {dk : DkS} {k : Nat} {T : Nat → ByteArray} (h : LaOk dk k T) (hk : k < 12) (hu : dk.up = true) (ht : (T k).size ≤ 240) : LaW dk k T ((laS k [(laN k : Int)] []).write dk (laN k : Int) 2 (T k)) := by
  have hn := laN_in k
  have hm : (laN k : Int) ∈ (laS k [(laN k : Int)] []).fresh := List.mem_singleton.2 rfl
  by_cases hf : dk.fuse = 0
  · refine .inr ?_
    have hp := pgWr_blown dk (laN k) 2 (T k) hu hf (by rw [h.len]; omega) (by decide) (by decide) ht
    unfold ShS.write
    rw [if_neg (by show ¬ (true : Bool) = false; decide), if_neg (fun hx => hx hm)]
    rw [show (2 : Int) = ((2 : Nat) : Int) from rfl, hp]
    exact ⟨rfl, h.turn rfl h.loose, rfl⟩
  · refine .inl ⟨hf, ?_⟩
    have hp := pgWr_ok dk (laN k) 2 (T k) hu hf (by rw [h.len]; omega) (by decide) (by decide) ht
    unfold ShS.write
    rw [if_neg (by show ¬ (true : Bool) = false; decide), if_neg (fun hx => hx hm)]
    rw [show (2 : Int) = ((2 : Nat) : Int) from rfl, hp]
    dsimp only
    rw [told_0]
def LaC (k : Nat) (T : Nat → ByteArray) (r : DkS × ShS × Int) : Prop :=
  (r.2.2 = 0 ∧ r.2.1 = laS (k + 1) [] [] ∧ LaOk r.1 (k + 1) T ∧ r.1.up = true) ∨ (r.2.2 = 5 ∧ LaOk r.1 k T ∧ r.1.up = false)
theorem la_commit {dk : DkS} {k : Nat} {T : Nat → ByteArray} (h : LaOk dk k T) (hk : k < 12) (hu : dk.up = true) : LaC k T ((laS k [(laN k : Int)] (laG k)).commit (dk.wrote (laN k) (pgL 2 (T k).data.toList)) (laN k : Int)) := by
  have hn := laN_in k
  obtain ⟨dk1, h1⟩ : ∃ dk1, dk.wrote (laN k) (pgL 2 (T k).data.toList) = dk1 := ⟨_, rfl⟩
  have hS1 : dk1.S = dk.S.set (laN k) (pgL 2 (T k).data.toList) := by rw [← h1, wrote_S]
  have hu1 : dk1.up = true := by rw [← h1, wrote_up]; exact hu
  rw [h1]
  have hl1 : dk1.S.length = 20 := by rw [hS1, List.length_set]; exact h.len
  have hm : mayB (laS k [(laN k : Int)] (laG k)) (laN k : Int) = true := by
    unfold mayB
    have : (laN k : Int) ∈ (laS k [(laN k : Int)] (laG k)).fresh := List.mem_singleton.2 rfl
    rw [decide_eq_true this]; simp
  have hg : (laS k [(laN k : Int)] (laG k)).h.gen ≠ 281474976710655 := by show ((k + 1 : Nat) : Int) ≠ 281474976710655; omega
  have hs : dk1.sync = ({ dk1 with L := [] }, 0) := by unfold DkS.sync; rw [if_neg (by rw [hu1]; decide)]
  have hx := laH_next k (by omega)
  have hsz := laH_size (k + 1)
  have hgm : (laH (k + 1)).gen % 2 = ((k % 2 : Nat) : Int) := by show (((k + 1 + 1 : Nat) : Int)) % 2 = _; omega
  by_cases hf : dk1.fuse = 0
  · refine .inr ?_
    have hw : wrHead { dk1 with L := [] } (laH (k + 1)) = ({ dk1 with L := [], up := false }, 5) := by
      have hp := pgWr_blown { dk1 with L := [] } (k % 2) 1 (headT (laH (k + 1))) hu1 hf (by show k % 2 < dk1.S.length; omega) (by decide) (by decide) hsz
      unfold wrHead
      rw [hgm, show (1 : Int) = ((1 : Nat) : Int) from rfl, hp, if_neg (show ¬ (5 : Int) = 0 by decide)]
    unfold ShS.commit
    rw [if_neg (by show ¬ (true : Bool) = false; decide), if_neg (by rw [hm]; decide), if_neg hg, if_neg (by rw [hs]; exact fun h => h rfl), hs, hx, hw, if_pos (show (5 : Int) ≠ 0 by decide)]
    exact ⟨rfl, h.paged _ hS1 rfl, rfl⟩
  · refine .inl ?_
    have hc := commit_ok (laS k [(laN k : Int)] (laG k)) dk1 (laN k : Int) rfl hm hg (by show (0 : Int) ≤ ((k + 1 : Nat) : Int); omega) (laU_size k) hu1 hf (by omega)
    have hw := (wrHead_ok { dk1 with L := [] } (laH (k + 1)) hu1 hf (by show 8 ≤ dk1.S.length; omega) hsz (by show (0 : Int) ≤ ((k + 1 + 1 : Nat) : Int); omega)).2
    rw [hc.1, hx, hs, hw, hgm, Int.toNat_natCast]
    refine ⟨rfl, rfl, h.next (k := k) ?_ rfl, ?_⟩
    · show (DkS.wrote { dk1 with L := [] } (k % 2) (hdL (laH (k + 1)))).S = _
      rw [wrote_S, ← hS1]
    · show (DkS.wrote { dk1 with L := [] } (k % 2) (hdL (laH (k + 1)))).up = true
      rw [wrote_up]; exact hu1
theorem la_give (k : Nat) (hk : k < 12) (h0 : 0 < k) : (laS k [(laN k : Int)] []).give (laR k : Int) = (laS k [(laN k : Int)] (laG k), 0) := by
  have hb : hasB (laS k [(laN k : Int)] []).h.used (laR k : Int) = true := (la_dec k (by omega)).2.2.2.2.2.1 h0
  have hr := laR_ne k
  unfold ShS.give
  rw [if_neg (by show ¬ (true : Bool) = false; decide), if_neg (fun hx => by have := List.mem_singleton.1 (show (laR k : Int) ∈ [(laN k : Int)] from hx); omega), if_pos ⟨hb, by show ¬ _ ∈ ([] : List Int); simp⟩]
  unfold laG
  rw [if_neg (by omega)]
  rfl
theorem la_crash {dk : DkS} {k : Nat} {T : Nat → ByteArray} (h : LaOk dk k T) (ks : List Int) : LaOk (dk.crash ks) k T ∧ (dk.crash ks).up = true := by
  refine ⟨h.turn ?_ rfl, rfl⟩
  show rsT dk.S dk.L ks dk.L.length = dk.S
  rw [h.loose]
  rfl
theorem la_left (k : Nat) (hk : k < 13) (h0 : 0 < k) : leftN (laS k [] []) 20 = 17 := by
  unfold leftN
  show ((20 : Nat) : Int) - 2 - (cntL (laU k).data.toList : Int) - ((0 : Nat) : Int) = _
  rw [(la_dec k hk).2.2.2.1, if_neg (by omega)]
  rfl
theorem la_read {dk : DkS} {k : Nat} {T : Nat → ByteArray} (h : LaOk dk (k + 1) T) (hu : dk.up = true) (ht : (T k).size ≤ 240) : (laS (k + 1) [] []).read dk (laR (k + 1) : Int) = (2, T k, 0) ∧ (laS (k + 1) [] []).reads dk (laR (k + 1) : Int) = laS (k + 1) [] [] := by
  have hr := rd_page dk (laR (k + 1)) 2 (T k) hu (h.pg k rfl) (by decide) (by decide) ht
  have hn := laN_in k
  have hc : ¬ ((laR (k + 1) : Int) < 2 ∨ (dk.S.length : Int) ≤ (laR (k + 1) : Int)) := by rw [h.len]; show ¬ (((laN k : Nat) : Int) < 2 ∨ _ ≤ ((laN k : Nat) : Int)); omega
  unfold ShS.read ShS.reads
  rw [if_neg (by show ¬ (true : Bool) = false; decide), if_neg hc, if_neg (by show ¬ (true : Bool) = false; decide), hr.1, hr.2.1, hr.2.2, told_0]
  exact ⟨rfl, ite_self _⟩
end Go.Proofs.YtbjmbndeaobbeaaDoor
