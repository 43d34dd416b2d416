/-
  Plain mathematics on bytes and numbers: big-endian writing and reading. No Go, no program.
-/
import Derived.Test.YtlbnakoaflladaaRows
namespace Go.Proofs.Ytlbnakoaflladaa
namespace M

/-- n in s bytes, the greatest first. -/
def be : Nat → Nat → List UInt8
  | 0, _ => []
  | s + 1, n => be s (n / 256) ++ [UInt8.ofNat (n % 256)]

theorem be_length (s n : Nat) : (be s n).length = s := by
  induction s generalizing n with
  | zero => rfl
  | succ s ih => simp [be, ih]

theorem be_get (s n i : Nat) (h : i < s) : (be s n)[i]? = some (UInt8.ofNat (n / 256 ^ (s - 1 - i) % 256)) := by
  induction s generalizing n with
  | zero => omega
  | succ s ih =>
    rw [be]
    by_cases hi : i < s
    · rw [List.getElem?_append_left (by rw [be_length]; exact hi), ih (n / 256) hi, Nat.div_div_eq_div_mul]
      have e : s + 1 - 1 - i = (s - 1 - i) + 1 := by omega
      rw [e, Nat.pow_succ, Nat.mul_comm 256]
    · have e : i = s := by omega
      subst e
      rw [List.getElem?_append_right (by rw [be_length]; exact Nat.le_refl _), be_length]
      simp

/-- The number that bytes say. -/
def val (l : List UInt8) : Nat := l.foldl (fun a b => a * 256 + b.toNat) 0

theorem val_nil : val [] = 0 := rfl
theorem val_snoc (l : List UInt8) (b : UInt8) : val (l ++ [b]) = val l * 256 + b.toNat := by simp [val, List.foldl_append]
theorem foldl_from (l : List UInt8) (a : Nat) : l.foldl (fun a b => a * 256 + b.toNat) a = a * 256 ^ l.length + val l := by
  induction l generalizing a with
  | nil => simp [val]
  | cons b l ih =>
    simp only [List.foldl_cons, List.length_cons, val]
    rw [ih, ih (0 * 256 + b.toNat), Nat.pow_succ, Nat.add_mul, Nat.mul_assoc, Nat.mul_comm 256]
    simp; omega
theorem val_append (a b : List UInt8) : val (a ++ b) = val a * 256 ^ b.length + val b := by
  rw [val, List.foldl_append, foldl_from]; rfl
theorem val_lt (l : List UInt8) : val l < 256 ^ l.length := by
  induction l with
  | nil => simp [val]
  | cons b l ih =>
    have e : val (b :: l) = b.toNat * 256 ^ l.length + val l := by
      have := foldl_from l b.toNat
      simp only [val, List.foldl_cons, Nat.zero_mul, Nat.zero_add] at this ⊢
      exact this
    have hb : b.toNat < 256 := b.toNat_lt
    rw [e, List.length_cons, Nat.pow_succ]
    have h1 : b.toNat * 256 ^ l.length ≤ 255 * 256 ^ l.length := Nat.mul_le_mul_right _ (by omega)
    omega
theorem val_be (s n : Nat) : val (be s n) = n % 256 ^ s := by
  induction s generalizing n with
  | zero => simp [be, val, Nat.mod_one]
  | succ s ih =>
    rw [be, val_snoc, ih, Nat.pow_succ, UInt8.toNat_ofNat', Nat.mod_mod_of_dvd _ (by decide)]
    rw [Nat.mul_comm (256 ^ s), Nat.mod_mul]
    omega
theorem be_val (l : List UInt8) : be l.length (val l) = l := by
  suffices h : ∀ s, ∀ l : List UInt8, l.length = s → be s (val l) = l from h _ l rfl
  intro s
  induction s with
  | zero => intro l h; rw [List.length_eq_zero_iff.1 h]; rfl
  | succ s ih =>
    intro l h
    have hne : l ≠ [] := by intro e; subst e; simp at h
    have hl := List.dropLast_concat_getLast hne
    have hd : l.dropLast.length = s := by simp [h]
    rw [be, ← hl, val_snoc]
    have hb : (l.getLast hne).toNat < 256 := (l.getLast hne).toNat_lt
    rw [show (val l.dropLast * 256 + (l.getLast hne).toNat) / 256 = val l.dropLast by omega, show (val l.dropLast * 256 + (l.getLast hne).toNat) % 256 = (l.getLast hne).toNat by omega, ih _ hd]
    simp
theorem be_eq (s : Nat) (l : List UInt8) (h : l.length = s) : be s (val l) = l := by subst h; exact be_val l
theorem be_inj {s n m : Nat} (hn : n < 256 ^ s) (hm : m < 256 ^ s) (h : be s n = be s m) : n = m := by
  have := congrArg val h
  rwa [val_be, val_be, Nat.mod_eq_of_lt hn, Nat.mod_eq_of_lt hm] at this
theorem be_cons (s n : Nat) (hn : n < 256 ^ (s + 1)) : be (s + 1) n = UInt8.ofNat (n / 256 ^ s) :: be s (n % 256 ^ s) := by
  have hlt : n / 256 ^ s < 256 := by
    apply Nat.div_lt_of_lt_mul
    rw [Nat.pow_succ] at hn
    exact hn
  have key : val (UInt8.ofNat (n / 256 ^ s) :: be s (n % 256 ^ s)) = n := by
    rw [show UInt8.ofNat (n / 256 ^ s) :: be s (n % 256 ^ s) = [UInt8.ofNat (n / 256 ^ s)] ++ be s (n % 256 ^ s) from rfl, val_append, be_length, val_be, Nat.mod_mod]
    have : val [UInt8.ofNat (n / 256 ^ s)] = n / 256 ^ s := by simp [val, UInt8.toNat_ofNat', Nat.mod_eq_of_lt hlt]
    rw [this, Nat.mul_comm]
    exact Nat.div_add_mod _ _
  have := be_eq (s + 1) (UInt8.ofNat (n / 256 ^ s) :: be s (n % 256 ^ s)) (by simp [be_length])
  rw [key] at this
  exact this
end M
end Go.Proofs.Ytlbnakoaflladaa
