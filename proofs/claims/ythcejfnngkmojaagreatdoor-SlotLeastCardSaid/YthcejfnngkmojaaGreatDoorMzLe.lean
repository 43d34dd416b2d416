/-
 Le.
-/
import Derived.Test.YthcejfnngkmojaaGreatDoorM19
namespace Go.Proofs.YthcejfnngkmojaaGreatDoor
open Go Go.RowKit
set_option maxRecDepth 20000
set_option maxHeartbeats 12800000
set_option linter.unusedVariables false
set_option linter.unusedSimpArgs false
def opX (x : Int × Int × Int) : Bool := openB x.1 x.2.1
def firstO (L : List (Int × Int × Int)) : Nat := L.findIdx opX
def takeL (ca nc : Int) (L : List (Int × Int × Int)) : List (Int × Int × Int) := if firstO L < L.length then L.set (firstO L) (ca, (L[firstO L]?.map (·.2.1)).getD 1, nc) else L ++ [(ca, 1, nc)]
def epO (L : List (Int × Int × Int)) : Int := (L[firstO L]?.map (·.2.1)).getD 1
def capAt (L : List (Int × Int × Int)) : Nat → Int
 | 0 => 0
 | k + 1 => (L[k]?.map (·.1)).getD 0
theorem capAt_zero (L : List (Int × Int × Int)) : capAt L 0 = 0 := rfl
theorem capAt_succ (L : List (Int × Int × Int)) (k : Nat) : capAt L (k + 1) = (L[k]?.map (·.1)).getD 0 := rfl
theorem firstO_le (L : List (Int × Int × Int)) : firstO L ≤ L.length := List.findIdx_le_length
theorem firstO_below {L : List (Int × Int × Int)} {j : Nat} {y : Int × Int × Int} (hj : j < firstO L) (hy : L[j]? = some y) : opX y = false := by
 have hl : j < L.length := (List.getElem?_eq_some_iff.1 hy).1;have := List.not_of_lt_findIdx (p := opX) (xs := L) hj;have e : L[j] = y := (List.getElem?_eq_some_iff.1 hy).2;rw [e] at this
 simpa using this
structure LeI (L : List (Int × Int × Int)) (i : Nat) : Prop where
 ok : SlL L
 len : L.length ≤ i
 non : ∀ x ∈ L, x.1 ≠ 0 → x.2.2 < (i : Int)
theorem LeI.nil : LeI [] 0 := ⟨slL_nil, Nat.le_refl _, fun x h => by cases h⟩
theorem LeI.bears {L : List (Int × Int × Int)} {i : Nat} (h : LeI L i) : ∀ x ∈ L, bearsB x.1 x.2.2 (i : Int) = false := fun x hx => by
 unfold bearsB
 by_cases h0 : x.1 = 0
 ·rw [h0]; rfl
 ·have := h.non x hx h0
  have e : (x.2.2 == (i : Int)) = false := by simp; omega
  rw [e, Bool.and_false]
theorem LeI.free {L : List (Int × Int × Int)} {i : Nat} (h : LeI L i) (cap : Int) : LeI (L.map (goneL cap)) (i + 1) := by
 refine ⟨h.ok.free cap, by rw [List.length_map]; have := h.len; omega, fun x hx h0 => ?_⟩;obtain ⟨y, hy, rfl⟩ := List.mem_map.1 hx;unfold goneL at h0 ⊢
 split at h0
 ·exact absurd rfl h0
 ·rename_i hg
  rw [if_neg hg];have := h.non y hy h0;omega
theorem LeI.take {L : List (Int × Int × Int)} {i : Nat} (h : LeI L i) (ca : Int) (hL : SlL (takeL ca (i : Int) L)) : LeI (takeL ca (i : Int) L) (i + 1) := by
 have hl := h.len;refine ⟨hL, ?_, fun x hx h0 => ?_⟩
 ·unfold takeL
  split
  ·rw [List.length_set]; omega
  ·simp; omega
 ·unfold takeL at hx
  split at hx
  ·rcases List.mem_or_eq_of_mem_set hx with hx | rfl
   ·have := h.non x hx h0; omega
   ·show (i : Int) < _; omega
  ·rcases List.mem_append.1 hx with hx | hx
   ·have := h.non x hx h0; omega
   ·rw [List.mem_singleton.1 hx]
    show (i : Int) < _; omega
theorem take_le {w0 w : World} {R : List Nat} {t d s : Nat} {L : List (Int × Int × Int)} {i : Nat} {ca : Int} (h : TxS w0 R w t d s 640 (slE 0 L)) (hI : LeI L i) (hi : i < 60) (hca : 1 ≤ ca ∧ ca ≤ 9) :
  Calls Tryz.prog 22 #[.pointer (some ⟨t, 0, none⟩), .int .i64 ca, .int .u64 (i : Int)] w fun e w' => e = .returned (.tuple #[.agg #[.int .i64 ((firstO L : Int) + 1), .int .i64 ca, .int .i64 (epO L), .int .u64 (i : Int)], .int .i64 0]) ∧ TxS w0 R w' t d s 640 (slE 0 (takeL ca (i : Int) L)) ∧ KeptT R t w w' ∧ LeI (takeL ca (i : Int) L) (i + 1) := by
 have hl := hI.len
 by_cases hf : firstO L < L.length
 ·have e : takeL ca (i : Int) L = L.set (firstO L) (ca, epO L, (i : Int)) := by unfold takeL epO; rw [if_pos hf]
  obtain ⟨x, hx⟩ : ∃ x, L[firstO L]? = some x := ⟨_, List.getElem?_eq_getElem hf⟩
  have he : epO L = x.2.1 := by unfold epO; rw [hx]; rfl
  have ho : opX x = true := by
   have := List.findIdx_getElem (p := opX) (xs := L) (w := hf);have e2 : L[firstO L] = x := (List.getElem?_eq_some_iff.1 hx).2;exact e2 ▸ this
  have := stake_old (ca := ca) (nc := (i : Int)) h hI.ok (by omega) (by omega) hI.bears hx ho (fun j y hj hy => firstO_below hj hy);rw [← he, ← e] at this;exact this.mono fun _ _ g => ⟨g.1, g.2.1, g.2.2.1, hI.take ca g.2.2.2⟩
 ·have e : takeL ca (i : Int) L = L ++ [(ca, 1, (i : Int))] := by unfold takeL; rw [if_neg hf]
  have hle := firstO_le L;have hq : firstO L = L.length := by omega
  have he : epO L = 1 := by unfold epO; rw [hq, List.getElem?_eq_none_iff.2 (Nat.le_refl _)]; rfl
  have := stake_new (ca := ca) (nc := (i : Int)) h hI.ok (by omega) (by omega) hI.bears (by omega) (fun y hy => by
   obtain ⟨j, hj⟩ := List.mem_iff_getElem?.1 hy;exact firstO_below (by rw [hq]; exact (List.getElem?_eq_some_iff.1 hj).1) hj)
  rw [← e, ← hq] at this;rw [he];exact this.mono fun _ _ g => ⟨g.1, g.2.1, g.2.2.1, hI.take ca g.2.2.2⟩
theorem capAt_first (L : List (Int × Int × Int)) : capAt L (firstO L + 1) = 0 := by
 rw [capAt_succ]
 cases hx : L[firstO L]? with
 | none => rfl
 | some x =>
  have hf := (List.getElem?_eq_some_iff.1 hx).1;have := List.findIdx_getElem (p := opX) (xs := L) (w := hf);have e2 : L[firstO L] = x := (List.getElem?_eq_some_iff.1 hx).2;have ho : opX x = true := e2 ▸ this;unfold opX openB at ho;simp only [Bool.and_eq_true, beq_iff_eq] at ho;exact ho.1
theorem capAt_take (ca nc : Int) (L : List (Int × Int × Int)) (k : Nat) : capAt (takeL ca nc L) k = if k = firstO L + 1 then ca else capAt L k := by
 cases k with
 | zero => rw [if_neg (by omega)]; rfl
 | succ k =>
  rw [capAt_succ, capAt_succ];unfold takeL;have hle := firstO_le L
  by_cases hf : firstO L < L.length
  ·rw [if_pos hf, List.getElem?_set]
   by_cases hk : firstO L = k
   ·rw [if_pos hk, if_pos (by omega), if_pos (by omega)]; rfl
   ·rw [if_neg hk, if_neg (by omega)]
  ·rw [if_neg hf]
   by_cases hk : firstO L = k
   ·rw [if_pos (by omega), List.getElem?_append_right (by omega), show k - L.length = 0 by omega]; rfl
   ·rw [if_neg (by omega)]
    by_cases hkl : k < L.length
    ·rw [List.getElem?_append_left hkl]
    ·rw [List.getElem?_eq_none_iff.2 (by simp; omega), List.getElem?_eq_none_iff.2 (by omega)]
theorem capAt_free {cap : Int} (h : 1 ≤ cap) (L : List (Int × Int × Int)) (k : Nat) : capAt (L.map (goneL cap)) k = if capAt L k = cap then 0 else capAt L k := by
 cases k with
 | zero => rw [capAt_zero, capAt_zero, if_neg (by omega)]
 | succ k =>
  rw [capAt_succ, capAt_succ];rw [List.getElem?_map]
  cases L[k]? with
  | none => simp
  | some x =>
   show (goneL cap x).1 = if x.1 = cap then 0 else x.1
   unfold goneL goneX liveB
   by_cases hx : x.1 = cap
   ·have h1 : (x.1 != 0) = true := by simp; omega
    have h2 : (x.1 == cap) = true := by simp [hx]
    rw [if_pos hx, h1, h2]; rfl
   ·have h2 : (x.1 == cap) = false := by simp [hx]
    rw [if_neg hx, h2, Bool.and_false, if_neg (by decide)]
theorem take_ahead {ca nc : Int} {L : List (Int × Int × Int)} {k : Nat} (h : k < firstO L) : ∃ x, (takeL ca nc L)[k]? = some x ∧ capAt L (k + 1) = x.1 ∧ (x.1 = 0 → 15 < x.2.1) := by
 have hle := firstO_le L;obtain ⟨x, hx⟩ : ∃ x, L[k]? = some x := ⟨_, List.getElem?_eq_getElem (by omega)⟩
 refine ⟨x, ?_, by rw [capAt_succ, hx]; rfl, fun h0 => ?_⟩
 ·unfold takeL
  split
  ·rw [List.getElem?_set, if_neg (by omega)]; exact hx
  ·rw [List.getElem?_append_left (by omega)]; exact hx
 ·have := firstO_below h hx
  unfold opX openB at this;rw [h0] at this;simp at this;omega
def liveV (L : List (Int × Int × Int)) : List Int := (List.range 60).map (capAt L)
def mixV (cap : Int) (L : List (Int × Int × Int)) (n : Nat) : List Int := (List.range 60).map fun k => if k < n then capAt (L.map (goneL cap)) k else capAt L k
theorem liveV_len (L : List (Int × Int × Int)) : (liveV L).length = 60 := by unfold liveV; simp
theorem mixV_len (cap : Int) (L : List (Int × Int × Int)) (n : Nat) : (mixV cap L n).length = 60 := by unfold mixV; simp
theorem liveV_at (L : List (Int × Int × Int)) {k : Nat} (h : k < 60) : (liveV L)[k]? = some (capAt L k) := by unfold liveV; rw [List.getElem?_map, List.getElem?_range h]; rfl
theorem mixV_at (cap : Int) (L : List (Int × Int × Int)) (n : Nat) {k : Nat} (h : k < 60) : (mixV cap L n)[k]? = some (if k < n then capAt (L.map (goneL cap)) k else capAt L k) := by unfold mixV; rw [List.getElem?_map, List.getElem?_range h]; rfl
theorem liveV_nil : liveV [] = List.replicate 60 0 := by decide
theorem liveV_take (ca nc : Int) (L : List (Int × Int × Int)) : liveV (takeL ca nc L) = (liveV L).set (firstO L + 1) ca := by
 apply List.ext_getElem?;intro k;rw [List.getElem?_set, liveV_len]
 by_cases hk : k < 60
 ·rw [liveV_at _ hk, liveV_at _ hk, capAt_take]
  by_cases h : firstO L + 1 = k
  ·rw [if_pos h.symm, if_pos h, if_pos (by omega)]
  ·rw [if_neg (fun e => h e.symm), if_neg h]
 ·rw [List.getElem?_eq_none_iff.2 (by rw [liveV_len]; omega), List.getElem?_eq_none_iff.2 (by rw [liveV_len]; omega)]
  split
  ·rw [if_neg (by omega)]
  ·rfl
theorem mixV_zero (cap : Int) (L : List (Int × Int × Int)) : mixV cap L 0 = liveV L := by
 unfold mixV liveV;apply List.map_congr_left;intro k _;rw [if_neg (Nat.not_lt_zero k)]
theorem mixV_all (cap : Int) (L : List (Int × Int × Int)) : mixV cap L 60 = liveV (L.map (goneL cap)) := by
 unfold mixV liveV;apply List.map_congr_left;intro k hk;rw [if_pos (by simpa using hk)]
theorem mixV_next (cap : Int) (L : List (Int × Int × Int)) {n : Nat} (hn : n < 60) : mixV cap L (n + 1) = (mixV cap L n).set n (capAt (L.map (goneL cap)) n) := by
 apply List.ext_getElem?;intro k;rw [List.getElem?_set, mixV_len]
 by_cases hk : k < 60
 ·rw [mixV_at _ _ _ hk, mixV_at _ _ _ hk]
  by_cases h : n = k
  ·subst h
   rw [if_pos rfl, if_pos hk, if_pos (by omega)]
  ·rw [if_neg h]
   by_cases h2 : k < n
   ·rw [if_pos h2, if_pos (by omega)]
   ·rw [if_neg h2, if_neg (by omega)]
 ·rw [List.getElem?_eq_none_iff.2 (by rw [mixV_len]; omega), List.getElem?_eq_none_iff.2 (by rw [mixV_len]; omega)]
  split
  ·exfalso; omega
  ·rfl
end Go.Proofs.YthcejfnngkmojaaGreatDoor
