/-
  Bytes merged, one by one: plain mathematics.
-/
import Derived.Test.YtlcgohmpbmmcpaaEx08
namespace Go.Proofs.Ytlcgohmpbmmcpaa
open Go.RowKit
set_option linter.unusedVariables false

theorem ofInt_u8 (a : Nat) (ha : a < 256) : (BitVec.ofInt 8 (a : Int)).toNat = a := by
  rw [BitVec.ofInt_natCast, BitVec.toNat_ofNat]; exact Nat.mod_eq_of_lt (by omega)
theorem u8_or_nat (a b : Nat) (ha : a < 256) (hb : b < 256) : bits .or .u8 (a : Int) (b : Int) = ((a ||| b : Nat) : Int) := by
  have hx : a ||| b < 2 ^ 8 := Nat.or_lt_two_pow (by omega) (by omega)
  show IntKind.u8.wrap ((BitVec.ofInt 8 (a : Int) ||| BitVec.ofInt 8 (b : Int)).toNat : Int) = _
  rw [BitVec.toNat_or, ofInt_u8 a ha, ofInt_u8 b hb, IntKind.wrap_u8]
  omega
def lessN (a b : Nat) : Nat := a ^^^ (a &&& b)
theorem lessN_lt (a b : Nat) (ha : a < 256) : lessN a b < 256 := by
  unfold lessN
  exact Nat.xor_lt_two_pow (n := 8) ha (Nat.lt_of_le_of_lt Nat.and_le_left ha)
theorem u8_less_nat (a b : Nat) (ha : a < 256) (hb : b < 256) : bits .andNot .u8 (a : Int) (b : Int) = (lessN a b : Int) := by
  have hx : lessN a b < 256 := lessN_lt a b ha
  show IntKind.u8.wrap ((BitVec.ofInt 8 (a : Int) &&& ~~~ BitVec.ofInt 8 (b : Int)).toNat : Int) = _
  have e : (BitVec.ofInt 8 (a : Int) &&& ~~~ BitVec.ofInt 8 (b : Int)).toNat = lessN a b := by
    have hA := ofInt_u8 a ha
    have hB := ofInt_u8 b hb
    generalize BitVec.ofInt 8 (a : Int) = x at *
    generalize BitVec.ofInt 8 (b : Int) = y at *
    subst hA hB
    apply Nat.eq_of_testBit_eq
    intro i
    unfold lessN
    rw [Nat.testBit_xor, Nat.testBit_and, BitVec.testBit_toNat, BitVec.testBit_toNat, BitVec.testBit_toNat, BitVec.getLsbD_and, BitVec.getLsbD_not]
    by_cases hi : i < 8
    · simp only [hi, decide_true, Bool.true_and]
      cases x.getLsbD i <;> cases y.getLsbD i <;> rfl
    · rw [BitVec.getLsbD_of_ge x i (by omega)]
      simp
  rw [e, IntKind.wrap_u8]
  omega

/-- The first j bytes merged. -/
def mergeK (f : Nat → Nat → Nat) (a b : List UInt8) : Nat → List UInt8
  | 0 => a
  | j + 1 => (mergeK f a b j).set j (UInt8.ofNat (f (a.getD j 0).toNat (b.getD j 0).toNat))
theorem mergeK_length (f : Nat → Nat → Nat) (a b : List UInt8) (j : Nat) : (mergeK f a b j).length = a.length := by
  induction j with
  | zero => rfl
  | succ j ih => simp [mergeK, ih]
theorem mergeK_get (f : Nat → Nat → Nat) (a b : List UInt8) (j t : Nat) (h : t < a.length) :
    (mergeK f a b j).getD t 0 = if t < j then UInt8.ofNat (f (a.getD t 0).toNat (b.getD t 0).toNat) else a.getD t 0 := by
  induction j with
  | zero => rw [if_neg (by omega)]; rfl
  | succ j ih =>
    have hl := mergeK_length f a b j
    rw [mergeK, List.getD_eq_getElem?_getD, List.getElem?_set]
    by_cases e : j = t
    · subst e
      rw [if_pos rfl, if_pos (by omega), if_pos (by omega)]
      rfl
    · rw [if_neg e, ← List.getD_eq_getElem?_getD, ih]
      by_cases h2 : t < j
      · rw [if_pos h2, if_pos (by omega)]
      · rw [if_neg h2, if_neg (by omega)]
def mergeL (f : Nat → Nat → Nat) (a b : List UInt8) : List UInt8 := mergeK f a b (min a.length b.length)
def mergeB (f : Nat → Nat → Nat) (a b : ByteArray) : ByteArray := Str (mergeL f a.data.toList b.data.toList)
theorem mergeB_size (f : Nat → Nat → Nat) (a b : ByteArray) : (mergeB f a b).size = a.size := by
  unfold mergeB mergeL
  rw [Str_size, mergeK_length]
  simp
theorem mergeL_length (f : Nat → Nat → Nat) (a b : List UInt8) : (mergeL f a b).length = a.length := mergeK_length _ _ _ _
theorem mergeL_get (f : Nat → Nat → Nat) (a b : List UInt8) (t : Nat) (h : t < a.length) :
    (mergeL f a b).getD t 0 = if t < b.length then UInt8.ofNat (f (a.getD t 0).toNat (b.getD t 0).toNat) else a.getD t 0 := by
  unfold mergeL
  rw [mergeK_get _ _ _ _ _ h]
  by_cases h2 : t < b.length
  · rw [if_pos h2, if_pos (by omega)]
  · rw [if_neg h2, if_neg (by omega)]
theorem ext_getD {a b : List UInt8} (hl : a.length = b.length) (h : ∀ t, t < a.length → a.getD t 0 = b.getD t 0) : a = b := by
  apply List.ext_getElem hl
  intro t h1 h2
  have := h t h1
  rwa [List.getD_eq_getElem?_getD, List.getElem?_eq_getElem h1, List.getD_eq_getElem?_getD, List.getElem?_eq_getElem h2] at this
theorem bitL_getD (l : List UInt8) (i : Nat) : bitL l i = (decide (i / 8 < l.length) && (l.getD (i / 8) 0).toNat.testBit (i % 8)) := by
  unfold bitL
  by_cases h : i / 8 < l.length
  · rw [dif_pos h, List.getD_eq_getElem?_getD, List.getElem?_eq_getElem h]
    simp [h]
  · rw [dif_neg h]
    simp [h]
/-- Texts of one length that have the same numbers are the same. -/
theorem bits_ext {a b : ByteArray} (hs : a.size = b.size) (h : ∀ i : Nat, i < 8 * a.size → hasB a (i : Int) = hasB b (i : Int)) : a = b := by
  apply eq_of_data
  have hl : a.data.toList.length = b.data.toList.length := by simpa using hs
  apply ext_getD hl
  intro t ht
  have hta : t < a.size := by simpa using ht
  apply UInt8.toNat_inj.1
  apply Nat.eq_of_testBit_eq
  intro k
  by_cases hk : k < 8
  · have := h (8 * t + k) (by omega)
    simp only [hasB, Int.toNat_natCast] at this
    rw [bitL_getD, bitL_getD] at this
    rw [show (8 * t + k) / 8 = t by omega, show (8 * t + k) % 8 = k by omega] at this
    have ha : t < a.data.toList.length := ht
    have hb : t < b.data.toList.length := by omega
    have hz : decide (0 ≤ ((8 * t + k : Nat) : Int)) = true := by simp; omega
    have h1 : decide (t < a.data.toList.length) = true := by simpa using ha
    have h2 : decide (t < b.data.toList.length) = true := by simpa using hb
    rw [hz, h1, h2] at this
    simpa only [Bool.true_and] using this
  · have e : ∀ x : UInt8, x.toNat.testBit k = false := fun x => by
      apply Nat.testBit_lt_two_pow
      have h1 := UInt8.toNat_lt x
      have h2 : 2 ^ 8 ≤ 2 ^ k := Nat.pow_le_pow_right (by decide) (by omega)
      omega
    rw [e, e]
theorem has_merge (f : Nat → Nat → Nat) (g : Bool → Bool → Bool) (hf : ∀ x y, x < 256 → y < 256 → f x y < 256) (hg : ∀ x y k, (f x y).testBit k = g (x.testBit k) (y.testBit k)) (hz : ∀ x, g x false = x) (a b : ByteArray) (i : Nat) (hi : i < 8 * a.size) :
    hasB (mergeB f a b) (i : Int) = g (hasB a (i : Int)) (hasB b (i : Int)) := by
  have ha : i / 8 < a.data.toList.length := by simp; omega
  simp only [hasB, Int.toNat_natCast, mergeB, Str_list]
  rw [bitL_getD, bitL_getD, bitL_getD, mergeL_length, mergeL_get _ _ _ _ ha]
  have h0 : decide (0 ≤ (i : Int)) = true := by simp
  have h1 : decide (i / 8 < a.data.toList.length) = true := by simpa using ha
  rw [h0, h1]
  by_cases hb : i / 8 < b.data.toList.length
  · have h2 : decide (i / 8 < b.data.toList.length) = true := by simpa using hb
    rw [if_pos hb, h2, UInt8.toNat_ofNat', Nat.mod_eq_of_lt (hf _ _ (UInt8.toNat_lt _) (UInt8.toNat_lt _)), hg]
    simp
  · have h2 : decide (i / 8 < b.data.toList.length) = false := by simpa using hb
    rw [if_neg hb, h2]
    simp [hz]
theorem has_join (a b : ByteArray) (i : Nat) (hi : i < 8 * a.size) : hasB (mergeB (· ||| ·) a b) (i : Int) = (hasB a (i : Int) || hasB b (i : Int)) :=
  has_merge (· ||| ·) (· || ·) (fun x y hx hy => Nat.or_lt_two_pow (n := 8) hx hy) (fun x y k => Nat.testBit_or ..) (fun x => Bool.or_false x) a b i hi
theorem has_less (a b : ByteArray) (i : Nat) (hi : i < 8 * a.size) : hasB (mergeB lessN a b) (i : Int) = (hasB a (i : Int) && !hasB b (i : Int)) :=
  has_merge lessN (fun x y => x && !y) (fun x y hx hy => lessN_lt x y hx) (fun x y k => by unfold lessN; rw [Nat.testBit_xor, Nat.testBit_and]; cases x.testBit k <;> cases y.testBit k <;> rfl) (fun x => by simp) a b i hi
theorem Buf.put {w : World} {g : Nat} {l : List UInt8} (h : Buf w g l) (i x : Nat) (hi : i < l.length) (hx : x < 256) :
    Buf (w.setCell ⟨g, i, none⟩ (.int .u8 (x : Int))) g (l.set i (UInt8.ofNat x)) := (h.stored i x hi hx _ 0 rfl).1
end Go.Proofs.Ytlcgohmpbmmcpaa
