/-
  Plain facts on counting bits: of numbers below 65536.
-/
import Derived.Test.YtjahkpbegndpiaaSup
namespace Go.Proofs.Ytjahkpbegndpiaa
open Go.RowKit
set_option linter.unusedVariables false

/-- How many of the first k bits of x are 1. -/
def pc : Nat → Nat → Nat
  | 0, _ => 0
  | k + 1, x => x % 2 + pc k (x / 2)
theorem pc_succ (k x : Nat) : pc (k + 1) x = pc k x + x / 2 ^ k % 2 := by
  induction k generalizing x with
  | zero => simp [pc]
  | succ k ih =>
    rw [pc, ih (x / 2), pc, Nat.div_div_eq_div_mul, show 2 * 2 ^ k = 2 ^ (k + 1) by rw [Nat.pow_succ]; omega]
    omega
/-- The popcount of one hexadecimal digit. -/
def pd (d : Nat) : Nat := d % 2 + d / 2 % 2 + d / 4 % 2 + d / 8 % 2

theorem and_split (x m : Nat) : x &&& m = (x / 16 &&& m / 16) * 16 + (x % 16 &&& m % 16) := by
  have h1 : (x &&& m) / 16 = x / 16 &&& m / 16 := Nat.and_div_two_pow (n := 4)
  have h2 : (x &&& m) % 16 = x % 16 &&& m % 16 := Nat.and_mod_two_pow (n := 4)
  rw [← h1, ← h2]; omega
theorem dig5 : ∀ d : Fin 16, (d.val / 2 &&& 5) + (d.val &&& 5) ≤ 10 ∧ (((d.val / 2 &&& 5) + (d.val &&& 5)) / 4 &&& 3) + (((d.val / 2 &&& 5) + (d.val &&& 5)) &&& 3) = pd d.val := by decide
theorem pd_le (d : Nat) : pd d ≤ 4 := by unfold pd; omega
theorem and5 : ∀ d : Fin 16, (d.val &&& 5) = d.val % 2 + d.val / 4 % 2 * 4 := by decide
theorem and3 : ∀ d : Fin 16, (d.val &&& 3) = d.val % 4 := by decide
theorem and15 : ∀ d : Fin 16, (d.val &&& 15) = d.val := by decide
theorem and0 (d : Nat) : d &&& 0 = 0 := Nat.and_zero d
/-- x &&& a mask of four equal digits below a greater part, x below 65536. -/
theorem mask4 (x a b c d M : Nat) (h0 : a < 16) (h1 : b < 16) (h2 : c < 16) (h3 : d < 16) (m0 m1 m2 m3 M4 : Nat) (k0 : m0 < 16) (k1 : m1 < 16) (k2 : m2 < 16) (k3 : m3 < 16)
    (hx : x = a + 16 * (b + 16 * (c + 16 * d))) (hM : M = m0 + 16 * (m1 + 16 * (m2 + 16 * (m3 + 16 * M4)))) :
    x &&& M = (a &&& m0) + 16 * ((b &&& m1) + 16 * ((c &&& m2) + 16 * (d &&& m3))) := by
  have e0 : x / 16 = b + 16 * (c + 16 * d) := by omega
  have e1 : M / 16 = m1 + 16 * (m2 + 16 * (m3 + 16 * M4)) := by omega
  have f0 : x % 16 = a := by omega
  have f1 : M % 16 = m0 := by omega
  have e2 : (b + 16 * (c + 16 * d)) / 16 = c + 16 * d := by omega
  have e3 : (m1 + 16 * (m2 + 16 * (m3 + 16 * M4))) / 16 = m2 + 16 * (m3 + 16 * M4) := by omega
  have f2 : (b + 16 * (c + 16 * d)) % 16 = b := by omega
  have f3 : (m1 + 16 * (m2 + 16 * (m3 + 16 * M4))) % 16 = m1 := by omega
  have e4 : (c + 16 * d) / 16 = d := by omega
  have e5 : (m2 + 16 * (m3 + 16 * M4)) / 16 = m3 + 16 * M4 := by omega
  have f4 : (c + 16 * d) % 16 = c := by omega
  have f5 : (m2 + 16 * (m3 + 16 * M4)) % 16 = m2 := by omega
  have e6 : d / 16 = 0 := by omega
  have f6 : d % 16 = d := by omega
  have f7 : (m3 + 16 * M4) % 16 = m3 := by omega
  rw [and_split x M, e0, e1, f0, f1, and_split (b + _), e2, e3, f2, f3, and_split (c + _), e4, e5, f4, f5, and_split d, e6, f6, f7, Nat.zero_and]
  omega
theorem pc4 (k x : Nat) : pc (k + 4) x = pd (x % 16) + pc k (x / 16) := by
  have e : x / 2 / 2 / 2 / 2 = x / 16 := by omega
  simp only [pc, pd, e]
  omega
theorem pc16 (x a b c d : Nat) (h0 : a < 16) (h1 : b < 16) (h2 : c < 16) (h3 : d < 16) (hx : x = a + 16 * (b + 16 * (c + 16 * d))) : pc 16 x = pd a + pd b + pd c + pd d := by
  have e1 : x % 16 = a := by omega
  have e2 : x / 16 = b + 16 * (c + 16 * d) := by omega
  have e3 : (b + 16 * (c + 16 * d)) % 16 = b := by omega
  have e4 : (b + 16 * (c + 16 * d)) / 16 = c + 16 * d := by omega
  have e5 : (c + 16 * d) % 16 = c := by omega
  have e6 : (c + 16 * d) / 16 = d := by omega
  have e7 : d % 16 = d := by omega
  rw [show 16 = 12 + 4 from rfl, pc4, e1, e2, show 12 = 8 + 4 from rfl, pc4, e3, e4, show 8 = 4 + 4 from rfl, pc4, e5, e6, show 4 = 0 + 4 from rfl, pc4]
  simp only [e7, pc]
  omega
/-- The steps of the library's OnesCount64, at a number below 65536. -/
def Steps (x : Nat) (p q r s t : Nat) : Prop :=
  x / 2 &&& 6148914691236517205 = p ∧ x &&& 6148914691236517205 = q ∧ (p + q) / 4 &&& 3689348814741910323 = r ∧ (p + q) &&& 3689348814741910323 = s ∧ ((r + s) / 16 + (r + s)) &&& 1085102592571150095 = t ∧
    p ≤ 65535 ∧ q ≤ 65535 ∧ r ≤ 65535 ∧ s ≤ 65535 ∧ p + q ≤ 65535 ∧ r + s ≤ 65535 ∧ t ≤ 65535 ∧ (t + t / 256 + (t + t / 256) / 65536 + (t + t / 256 + (t + t / 256) / 65536) / 4294967296) % 128 = pc 16 x
theorem le5 (u : Nat) (hu : u < 16) : (u &&& 5) ≤ 5 := by
  have := and5 ⟨u, hu⟩
  simp only at this
  omega
theorem le3 (u : Nat) (hu : u < 16) : (u &&& 3) ≤ 3 := by
  have := and3 ⟨u, hu⟩
  simp only at this
  omega
theorem low5 (u v : Nat) (hu : u < 16) : (u / 2 + v % 2 * 8) &&& 5 = u / 2 &&& 5 := by
  have k1 := and5 ⟨u / 2 + v % 2 * 8, by omega⟩
  have k2 := and5 ⟨u / 2, by omega⟩
  simp only at k1 k2
  rw [k1, k2]; omega
theorem low3 (u v : Nat) (hu : u < 16) : (u / 4 + v % 4 * 4) &&& 3 = u / 4 &&& 3 := by
  have k1 := and3 ⟨u / 4 + v % 4 * 4, by omega⟩
  have k2 := and3 ⟨u / 4, by omega⟩
  simp only at k1 k2
  rw [k1, k2]; omega
/-- A number of four digits. -/
def num4 (a b c d : Nat) : Nat := a + 16 * (b + 16 * (c + 16 * d))
theorem stepA (a b c d : Nat) (h0 : a < 16) (h1 : b < 16) (h2 : c < 16) (h3 : d < 16) :
    num4 a b c d / 2 &&& 6148914691236517205 = num4 (a / 2 &&& 5) (b / 2 &&& 5) (c / 2 &&& 5) (d / 2 &&& 5) ∧ num4 a b c d &&& 6148914691236517205 = num4 (a &&& 5) (b &&& 5) (c &&& 5) (d &&& 5) := by
  have q1 := mask4 (num4 a b c d) a b c d 6148914691236517205 h0 h1 h2 h3 5 5 5 5 93824992236885 (by decide) (by decide) (by decide) (by decide) rfl (by decide)
  have e' : num4 a b c d / 2 = (a / 2 + b % 2 * 8) + 16 * ((b / 2 + c % 2 * 8) + 16 * ((c / 2 + d % 2 * 8) + 16 * (d / 2))) := by unfold num4; omega
  have p1 := mask4 (num4 a b c d / 2) _ _ _ _ 6148914691236517205 (by omega) (by omega) (by omega) (by omega) 5 5 5 5 93824992236885 (by decide) (by decide) (by decide) (by decide) e' (by decide)
  rw [low5 a b h0, low5 b c h1, low5 c d h2] at p1
  exact ⟨p1, q1⟩
theorem stepB (a b c d : Nat) (h0 : a < 16) (h1 : b < 16) (h2 : c < 16) (h3 : d < 16) :
    num4 a b c d / 4 &&& 3689348814741910323 = num4 (a / 4 &&& 3) (b / 4 &&& 3) (c / 4 &&& 3) (d / 4 &&& 3) ∧ num4 a b c d &&& 3689348814741910323 = num4 (a &&& 3) (b &&& 3) (c &&& 3) (d &&& 3) := by
  have q1 := mask4 (num4 a b c d) a b c d 3689348814741910323 h0 h1 h2 h3 3 3 3 3 56294995342131 (by decide) (by decide) (by decide) (by decide) rfl (by decide)
  have e' : num4 a b c d / 4 = (a / 4 + b % 4 * 4) + 16 * ((b / 4 + c % 4 * 4) + 16 * ((c / 4 + d % 4 * 4) + 16 * (d / 4))) := by unfold num4; omega
  have p1 := mask4 (num4 a b c d / 4) _ _ _ _ 3689348814741910323 (by omega) (by omega) (by omega) (by omega) 3 3 3 3 56294995342131 (by decide) (by decide) (by decide) (by decide) e' (by decide)
  rw [low3 a b h0, low3 b c h1, low3 c d h2] at p1
  exact ⟨p1, q1⟩
theorem stepC (a b c d : Nat) (h0 : a ≤ 4) (h1 : b ≤ 4) (h2 : c ≤ 4) (h3 : d ≤ 4) :
    (num4 a b c d / 16 + num4 a b c d) &&& 1085102592571150095 = (a + b) + 256 * (c + d) := by
  have e' : num4 a b c d / 16 + num4 a b c d = (a + b) + 16 * ((b + c) + 16 * ((c + d) + 16 * d)) := by unfold num4; omega
  have p1 := mask4 (num4 a b c d / 16 + num4 a b c d) _ _ _ _ 1085102592571150095 (by omega) (by omega) (by omega) (by omega) 15 0 15 0 16557351571215 (by decide) (by decide) (by decide) (by decide) e' (by decide)
  have k1 := and15 ⟨a + b, by omega⟩
  have k2 := and15 ⟨c + d, by omega⟩
  simp only at k1 k2
  rw [and0, and0, k1, k2] at p1
  rw [p1]; omega
theorem num4_add (a b c d a' b' c' d' : Nat) : num4 a b c d + num4 a' b' c' d' = num4 (a + a') (b + b') (c + c') (d + d') := by unfold num4; omega
theorem num4_le (a b c d : Nat) (h0 : a < 16) (h1 : b < 16) (h2 : c < 16) (h3 : d < 16) : num4 a b c d ≤ 65535 := by unfold num4; omega
theorem last_eq (x y : Nat) (hx : x ≤ 8) (hy : y ≤ 8) : ((x + 256 * y) + (x + 256 * y) / 256 + ((x + 256 * y) + (x + 256 * y) / 256) / 65536 + ((x + 256 * y) + (x + 256 * y) / 256 + ((x + 256 * y) + (x + 256 * y) / 256) / 65536) / 4294967296) % 128 = x + y := by
  have e1 : (x + 256 * y) / 256 = y := by omega
  have e2 : (x + 256 * y + y) / 65536 = 0 := by omega
  have e3 : (x + 256 * y + y) / 4294967296 = 0 := by omega
  rw [e1, e2, Nat.add_zero, e3]
  omega
theorem steps_of (x : Nat) (hx : x ≤ 65535) : ∃ p q r s t, Steps x p q r s t := by
  obtain ⟨a, b, c, d, h0, h1, h2, h3, e⟩ : ∃ a b c d, a < 16 ∧ b < 16 ∧ c < 16 ∧ d < 16 ∧ x = num4 a b c d :=
    ⟨x % 16, x / 16 % 16, x / 256 % 16, x / 4096, by omega, by omega, by omega, by omega, by unfold num4; omega⟩
  subst e
  obtain ⟨p1, q1⟩ := stepA a b c d h0 h1 h2 h3
  have da := dig5 ⟨a, h0⟩
  have db := dig5 ⟨b, h1⟩
  have dc := dig5 ⟨c, h2⟩
  have dd := dig5 ⟨d, h3⟩
  simp only at da db dc dd
  have sum1 := num4_add (a / 2 &&& 5) (b / 2 &&& 5) (c / 2 &&& 5) (d / 2 &&& 5) (a &&& 5) (b &&& 5) (c &&& 5) (d &&& 5)
  obtain ⟨r1, s1⟩ := stepB _ _ _ _ (Nat.lt_of_le_of_lt da.1 (by decide)) (Nat.lt_of_le_of_lt db.1 (by decide)) (Nat.lt_of_le_of_lt dc.1 (by decide)) (Nat.lt_of_le_of_lt dd.1 (by decide))
  have sum3 := num4_add (((a / 2 &&& 5) + (a &&& 5)) / 4 &&& 3) (((b / 2 &&& 5) + (b &&& 5)) / 4 &&& 3) (((c / 2 &&& 5) + (c &&& 5)) / 4 &&& 3) (((d / 2 &&& 5) + (d &&& 5)) / 4 &&& 3) ((a / 2 &&& 5) + (a &&& 5) &&& 3) ((b / 2 &&& 5) + (b &&& 5) &&& 3) ((c / 2 &&& 5) + (c &&& 5) &&& 3) ((d / 2 &&& 5) + (d &&& 5) &&& 3)
  rw [da.2, db.2, dc.2, dd.2] at sum3
  have t1 := stepC (pd a) (pd b) (pd c) (pd d) (pd_le a) (pd_le b) (pd_le c) (pd_le d)
  have pa := pd_le a
  have pb := pd_le b
  have pcc := pd_le c
  have pdd := pd_le d
  have w5 := fun u hu => Nat.lt_of_le_of_lt (le5 u hu) (show 5 < 16 by decide)
  have w3 := fun u hu => Nat.lt_of_le_of_lt (le3 u hu) (show 3 < 16 by decide)
  have v1 := Nat.lt_of_le_of_lt da.1 (show 10 < 16 by decide)
  have v2 := Nat.lt_of_le_of_lt db.1 (show 10 < 16 by decide)
  have v3 := Nat.lt_of_le_of_lt dc.1 (show 10 < 16 by decide)
  have v4 := Nat.lt_of_le_of_lt dd.1 (show 10 < 16 by decide)
  have d4 : ∀ u : Nat, u < 16 → u / 4 < 16 := fun u hu => by omega
  have d2 : ∀ u : Nat, u < 16 → u / 2 < 16 := fun u hu => by omega
  have L1 := num4_le _ _ _ _ (w5 _ (d2 a h0)) (w5 _ (d2 b h1)) (w5 _ (d2 c h2)) (w5 _ (d2 d h3))
  have L2 := num4_le _ _ _ _ (w5 a h0) (w5 b h1) (w5 c h2) (w5 d h3)
  have L3 := num4_le _ _ _ _ (w3 _ (d4 _ v1)) (w3 _ (d4 _ v2)) (w3 _ (d4 _ v3)) (w3 _ (d4 _ v4))
  have L4 := num4_le _ _ _ _ (w3 _ v1) (w3 _ v2) (w3 _ v3) (w3 _ v4)
  have L5 := num4_le _ _ _ _ v1 v2 v3 v4
  have l4 : ∀ u : Nat, u ≤ 4 → u < 16 := fun u hu => by omega
  have L6 := num4_le _ _ _ _ (l4 _ pa) (l4 _ pb) (l4 _ pcc) (l4 _ pdd)
  have L7 : pd a + pd b + 256 * (pd c + pd d) ≤ 65535 := by omega
  have L8 := last_eq (pd a + pd b) (pd c + pd d) (by omega) (by omega)
  have hp := pc16 (num4 a b c d) a b c d h0 h1 h2 h3 rfl
  rw [← sum1] at r1 s1 L5
  rw [← sum3] at t1 L6
  refine ⟨_, _, _, _, _, p1, q1, r1, s1, t1, L1, L2, L3, L4, L5, L6, L7, ?_⟩
  rw [hp, L8]
  simp only [Nat.add_assoc]
end Go.Proofs.Ytjahkpbegndpiaa
