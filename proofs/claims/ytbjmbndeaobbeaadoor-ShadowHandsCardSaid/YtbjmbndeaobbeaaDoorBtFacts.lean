/-
  Facts on With, Has, Count.
-/
import Derived.Test.YtbjmbndeaobbeaaDoorBitsWith0
import Derived.Test.YtbjmbndeaobbeaaDoorBitsCount
namespace Go.Proofs.YtbjmbndeaobbeaaDoor
open Go.RowKit
set_option linter.unusedVariables false

theorem setb_bit : ∀ (c : Fin 256) (k j : Fin 8) (on : Bool), (setb c.val k.val on).testBit j.val = if k.val = j.val then on else c.val.testBit j.val := by decide +kernel
theorem setb_pc : ∀ (c : Fin 256) (k : Fin 8), pc 8 (setb c.val k.val true) = pc 8 (setb c.val k.val false) + 1 := by decide +kernel
theorem setb_same : ∀ (c : Fin 256) (k : Fin 8), setb c.val k.val true = c.val ∨ setb c.val k.val false = c.val := by decide +kernel
theorem u8_setb (c : UInt8) (k : Nat) (hk : k < 8) (on : Bool) : (UInt8.ofNat (setb c.toNat k on)).toNat = setb c.toNat k on := by
  have := setb_lt ⟨c.toNat, UInt8.toNat_lt c⟩ ⟨k, hk⟩ on
  rw [UInt8.toNat_ofNat', Nat.mod_eq_of_lt this]
theorem withL_length (l : List UInt8) (i : Nat) (on : Bool) : (withL l i on).length = l.length := by
  unfold withL; split <;> simp
theorem withB_size (b : ByteArray) (i : Int) (on : Bool) : (withB b i on).size = b.size := by
  unfold withB
  split
  · rw [Str_size, withL_length]; simp
  · rfl
theorem bit_withL (l : List UInt8) (i j : Nat) (on : Bool) (h : i / 8 < l.length) : bitL (withL l i on) j = if i = j then on else bitL l j := by
  unfold bitL
  by_cases hj : j / 8 < l.length
  · rw [dif_pos (by rw [withL_length]; exact hj), dif_pos hj]
    have hk : i % 8 < 8 := by omega
    have hk2 : j % 8 < 8 := by omega
    simp only [withL, dif_pos h]
    rw [List.getElem_set]
    by_cases e : i / 8 = j / 8
    · rw [if_pos e, u8_setb _ _ hk]
      have := setb_bit ⟨(l[i / 8]).toNat, UInt8.toNat_lt _⟩ ⟨i % 8, hk⟩ ⟨j % 8, hk2⟩ on
      simp only at this
      rw [this]
      by_cases e2 : i % 8 = j % 8
      · rw [if_pos e2, if_pos (by omega)]
      · rw [if_neg e2, if_neg (by omega)]
        simp only [e]
    · rw [if_neg e, if_neg (by omega)]
  · rw [dif_neg (by rw [withL_length]; exact hj), dif_neg hj, if_neg (by omega)]
theorem room_iff (b : ByteArray) (i : Int) : roomB b i = true ↔ (0 ≤ i ∧ i < 8 * (b.size : Int)) := by unfold roomB; simp
theorem has_with (b : ByteArray) (i j : Int) (on : Bool) (h : roomB b i = true) : hasB (withB b i on) j = if j = i then on else hasB b j := by
  rw [room_iff] at h
  obtain ⟨n, rfl⟩ := Int.eq_ofNat_of_zero_le h.1
  have hr : roomB b (n : Int) = true := (room_iff b n).2 h
  have hl : n / 8 < b.data.toList.length := by simp; omega
  unfold hasB withB
  rw [hr, if_pos rfl, Str_list, Int.toNat_natCast, bit_withL _ _ _ _ hl]
  by_cases h0 : 0 ≤ j
  · obtain ⟨m, rfl⟩ := Int.eq_ofNat_of_zero_le h0
    rw [Int.toNat_natCast]
    by_cases e : n = m
    · subst e; simp
    · rw [if_neg e, if_neg (by omega)]
  · have hne : ¬ j = (n : Int) := by omega
    rw [if_neg hne]
    simp [h0]
theorem cntL_set (l : List UInt8) (i : Nat) (c : UInt8) (h : i < l.length) : cntL (l.set i c) + pc 8 (l[i]).toNat = cntL l + pc 8 c.toNat := by
  induction l generalizing i with
  | nil => simp at h
  | cons d l ih =>
    cases i with
    | zero => simp [cntL]; omega
    | succ i =>
      have := ih i (by simpa using h)
      simp only [cntL, List.set_cons_succ, List.map_cons, List.sum_cons, List.getElem_cons_succ] at this ⊢
      omega
theorem cnt_with (b : ByteArray) (i : Int) (h : roomB b i = true) : cntL (withB b i true).data.toList = cntL (withB b i false).data.toList + 1 := by
  rw [room_iff] at h
  obtain ⟨n, rfl⟩ := Int.eq_ofNat_of_zero_le h.1
  have hr : roomB b (n : Int) = true := (room_iff b n).2 h
  have hl : n / 8 < b.data.toList.length := by simp; omega
  rw [withB_yes b n true hr hl, withB_yes b n false hr hl, Str_list, Str_list]
  have h1 := cntL_set b.data.toList (n / 8) (UInt8.ofNat (setb (b.data.toList[n / 8]).toNat (n % 8) true)) hl
  have h2 := cntL_set b.data.toList (n / 8) (UInt8.ofNat (setb (b.data.toList[n / 8]).toNat (n % 8) false)) hl
  have hk : n % 8 < 8 := by omega
  rw [u8_setb _ _ hk] at h1 h2
  have := setb_pc ⟨(b.data.toList[n / 8]).toNat, UInt8.toNat_lt _⟩ ⟨n % 8, hk⟩
  simp only at this
  omega
theorem with_same (b : ByteArray) (i : Int) (h : roomB b i = true) : withB b i true = b ∨ withB b i false = b := by
  rw [room_iff] at h
  obtain ⟨n, rfl⟩ := Int.eq_ofNat_of_zero_le h.1
  have hr : roomB b (n : Int) = true := (room_iff b n).2 h
  have hl : n / 8 < b.data.toList.length := by simp; omega
  have hk : n % 8 < 8 := by omega
  rw [withB_yes b n true hr hl, withB_yes b n false hr hl]
  rcases setb_same ⟨(b.data.toList[n / 8]).toNat, UInt8.toNat_lt _⟩ ⟨n % 8, hk⟩ with e | e
  · left
    simp only at e
    rw [e, UInt8.ofNat_toNat, List.set_getElem_self, Str_of]
  · right
    simp only at e
    rw [e, UInt8.ofNat_toNat, List.set_getElem_self, Str_of]
theorem with_out (b : ByteArray) (i : Int) (on : Bool) (h : roomB b i = false) : withB b i on = b := by unfold withB; rw [h]; rfl
end Go.Proofs.YtbjmbndeaobbeaaDoor
