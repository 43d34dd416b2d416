/-
 Fu.
-/
import Derived.Test.YthcejfnngkmojaaGreatDoorM19
namespace Go.Proofs.YthcejfnngkmojaaGreatDoor
open Go Go.RowKit
set_option maxRecDepth 20000
set_option maxHeartbeats 12800000
set_option linter.unusedVariables false
set_option linter.unusedSimpArgs false
def fuL (f : Int) (i : Nat) : List (Int × Int × Int) := (List.range i).map fun (k : Nat) => (((k : Int) + 1, 1, f + ((k : Int) + 1)) : Int × Int × Int)
theorem fuL_len (f : Int) (i : Nat) : (fuL f i).length = i := by unfold fuL; simp
theorem fuL_at (f : Int) {i k : Nat} (h : k < i) : (fuL f i)[k]? = some ((k : Int) + 1, 1, f + ((k : Int) + 1)) := by
 unfold fuL;rw [List.getElem?_map, List.getElem?_range h]
 rfl
theorem fuL_next (f : Int) (i : Nat) : fuL f i ++ [((i : Int) + 1, 1, f + ((i : Int) + 1))] = fuL f (i + 1) := by
 unfold fuL;rw [List.range_succ, List.map_append]
 rfl
theorem fuL_mem {f : Int} {i : Nat} {x : Int × Int × Int} (h : x ∈ fuL f i) : ∃ k, k < i ∧ x = ((k : Int) + 1, 1, f + ((k : Int) + 1)) := by
 unfold fuL at h;obtain ⟨k, hk, rfl⟩ := List.mem_map.1 h;exact ⟨k, by simpa using hk, rfl⟩
theorem fuL_open {f : Int} {i : Nat} {x : Int × Int × Int} (h : x ∈ fuL f i) : openB x.1 x.2.1 = false := by
 obtain ⟨k, hk, rfl⟩ := fuL_mem h;unfold openB;have : (((k : Int) + 1) == 0) = false := by simp; omega
 rw [this]
 rfl
theorem fuL_bears {f n : Int} {i : Nat} (hn : n ≤ f ∨ f + (i : Int) < n) {x : Int × Int × Int} (h : x ∈ fuL f i) : bearsB x.1 x.2.2 n = false := by
 obtain ⟨k, hk, rfl⟩ := fuL_mem h;unfold bearsB;have : ((f + ((k : Int) + 1)) == n) = false := by simp; omega
 show (_ && ((f + ((k : Int) + 1)) == n)) = false
 rw [this, Bool.and_false]
theorem take_fu {w0 w : World} {R : List Nat} {t d s : Nat} {f : Int} {i : Nat} (h : TxS w0 R w t d s 640 (slE 0 (fuL f i))) (hL : SlL (fuL f i)) (hi : i < 200) (hf : 0 ≤ f ∧ f ≤ 4294967295) :
  Calls Tryz.prog 22 #[.pointer (some ⟨t, 0, none⟩), .int .i64 ((i : Int) + 1), .int .u64 (f + ((i : Int) + 1))] w fun e w' => e = .returned (.tuple #[.agg #[.int .i64 ((i : Int) + 1), .int .i64 ((i : Int) + 1), .int .i64 1, .int .u64 (f + ((i : Int) + 1))], .int .i64 0]) ∧ TxS w0 R w' t d s 640 (slE 0 (fuL f (i + 1))) ∧ KeptT R t w w' ∧ SlL (fuL f (i + 1)) := by
 have := stake_new (ca := (i : Int) + 1) (nc := f + ((i : Int) + 1)) h hL (by omega) (by omega) (fun x hx => fuL_bears (.inr (by omega)) hx) (by rw [fuL_len]; exact hi) (fun y hy => fuL_open hy);rw [fuL_next, fuL_len] at this;exact this
theorem full_fu {w0 w : World} {R : List Nat} {t d s : Nat} {f : Int} (h : TxS w0 R w t d s 640 (slE 0 (fuL f 200))) (hL : SlL (fuL f 200)) :
  Calls Tryz.prog 22 #[.pointer (some ⟨t, 0, none⟩), .int .i64 5, .int .u64 f] w fun e w' => e = .returned (.tuple #[.agg #[.int .i64 0, .int .i64 0, .int .i64 0, .int .u64 0], .int .i64 4]) ∧ TxS w0 R w' t d s 640 (slE 0 (fuL f 200)) ∧ KeptT R t w w' :=
 stake_full h hL (by decide) (fun x hx => fuL_bears (.inl (Int.le_refl _)) hx) (fuL_len _ _) (fun y hy => fuL_open hy)
theorem goneX_fu (c : Nat) (k : Nat) (n : Int) : goneX ((c : Int) + 1) ((k : Int) + 1, 1, n) = (k == c) := by
 unfold goneX liveB;have h1 : (((k : Int) + 1) != 0) = true := by simp; omega
 show ((((k : Int) + 1) != 0) && (((k : Int) + 1) == ((c : Int) + 1))) = _
 rw [h1, Bool.true_and]
 by_cases h : k = c
 ·subst h; simp
 ·have h2 : (((k : Int) + 1) == ((c : Int) + 1)) = false := by simp; omega
  have h3 : (k == c) = false := by simpa using h
  rw [h2, h3]
theorem fu_count (f : Int) (c : Nat) : ∀ i, ((fuL f i).filter (goneX ((c : Int) + 1))).length = if c < i then 1 else 0
 | 0 => rfl
 | i + 1 => by
  rw [← fuL_next, List.filter_append, List.length_append, fu_count f c i, List.filter_cons, goneX_fu]
  by_cases h : i = c
  ·subst h
   simp
  ·have h3 : (i == c) = false := by simpa using h
   rw [h3]
   by_cases h4 : c < i
   ·rw [if_pos h4, if_neg (by decide), if_pos (by omega)]; rfl
   ·rw [if_neg h4, if_neg (by decide), if_neg (by omega)]; rfl
theorem fu_gone (f : Int) {c i : Nat} (h : c < i) : (fuL f i).map (goneL ((c : Int) + 1)) = (fuL f i).set c (0, 2, 0) := by
 apply List.ext_getElem?;intro k;rw [List.getElem?_map, List.getElem?_set, fuL_len]
 by_cases hk : k < i
 ·rw [fuL_at f hk, Option.map_some]
  unfold goneL;rw [goneX_fu]
  by_cases hc : c = k
  ·subst hc
   rw [if_pos rfl, if_pos h, if_pos (by simp)]
   rfl
  ·have h3 : (k == c) = false := by simp; omega
   rw [if_neg hc, if_neg (by rw [h3]; decide)]
 ·have e : (fuL f i)[k]? = none := List.getElem?_eq_none_iff.2 (by rw [fuL_len]; omega)
  rw [e, if_neg (by omega)]
  rfl
theorem free_fu {w0 w : World} {R : List Nat} {t d s : Nat} {f : Int} {c : Nat} (h : TxS w0 R w t d s 640 (slE 0 (fuL f 200))) (hL : SlL (fuL f 200)) (hc : c < 200) :
  Calls Tryz.prog 23 #[.pointer (some ⟨t, 0, none⟩), .int .i64 ((c : Int) + 1)] w fun e w' => e = .returned (.tuple #[.int .i64 1, .int .i64 0]) ∧ TxS w0 R w' t d s 640 (slE 0 ((fuL f 200).set c (0, 2, 0))) ∧ KeptT R t w w' ∧ SlL ((fuL f 200).set c (0, 2, 0)) := by
 have := sfree_L ((c : Int) + 1) h hL;rw [fu_gone f hc, fu_count, if_pos hc] at this;have h2 := hL.free ((c : Int) + 1);rw [fu_gone f hc] at h2;exact this.mono fun e w' h => ⟨h.1, h.2.1, h.2.2, h2⟩
theorem again_fu {w0 w : World} {R : List Nat} {t d s : Nat} {f : Int} {c : Nat} (h : TxS w0 R w t d s 640 (slE 0 ((fuL f 200).set c (0, 2, 0)))) (hL : SlL ((fuL f 200).set c (0, 2, 0))) (hc : c < 200) (hf : 0 ≤ f ∧ f ≤ 4294967295) :
  Calls Tryz.prog 22 #[.pointer (some ⟨t, 0, none⟩), .int .i64 5, .int .u64 f] w fun e w' => e = .returned (.tuple #[.agg #[.int .i64 ((c : Int) + 1), .int .i64 5, .int .i64 2, .int .u64 f], .int .i64 0]) ∧ Below w0.heap.size w0 w' ∧ KeptT R t w w' ∧ (∀ k ∈ R, k < w'.heap.size) := by
 have hx : ((fuL f 200).set c (0, 2, 0))[c]? = some (0, 2, 0) := by
  rw [List.getElem?_set, if_pos rfl, fuL_len, if_pos hc]
 have := stake_old (ca := 5) (nc := f) (i := c) (x := (0, 2, 0)) h hL (by decide) (by omega) (fun x hx => by
  rcases List.mem_or_eq_of_mem_set hx with hx | rfl
  ·exact fuL_bears (.inl (Int.le_refl _)) hx
  ·rfl) hx (by decide) (fun j y hj hy => by
  rw [List.getElem?_set, if_neg (by omega)] at hy;exact fuL_open (List.mem_of_getElem? hy))
 exact this.mono fun e w' h => ⟨h.1, h.2.1.from, h.2.2.1, h.2.1.lt.1⟩
end Go.Proofs.YthcejfnngkmojaaGreatDoor
