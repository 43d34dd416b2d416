import Derived.Test.YtjcodjdhomhlpaaFoldFacts
import Derived.Test.YtjcodjdhomhlpaaEx02
import Derived.Outline
namespace Go.Proofs.Ytjcodjdhomhlpaa
open Go.RowKit
set_option linter.unusedVariables false

/-- A slice that a literal made, as a text. -/
theorem conv_lit (w : World) (l : List UInt8) (cells : Array Value) (o : Obj) (hw : ∀ j (h : j < l.length), (w.alloc o).cell? ⟨w.heap.size, j, none⟩ = some (.int .u8 ((l[j]).toNat : Int))) (n cap : Nat) (hn : l.length = n) :
    (convert 31 9 (.slice (some ⟨w.heap.size, 0, none⟩) n cap)).run Try.prog (w.alloc o) = .ok (.string (Str l)) (w.alloc o) := by
  subst hn
  exact run_convert_bytes_back (P := Try.prog) (w.alloc o) 31 9 5 ⟨w.heap.size, 0, none⟩ cap l Try.underlying31 Try.underlying5 Try.underlying9 (fun j hj => by rw [addr_add]; simpa using hw j hj)
theorem conv_one (w : World) (x : UInt8) (z : Int) (hz : (x.toNat : Int) = z) :
    (convert 31 9 (.slice (some ⟨w.heap.size, 0, none⟩) 1 1)).run Try.prog (w.alloc (.cells #[.int .u8 z] 5)) = .ok (.string (Str [x])) (w.alloc (.cells #[.int .u8 z] 5)) := by
  subst hz
  refine conv_lit w [x] #[] _ (fun j hj => ?_) 1 1 rfl
  obtain rfl : j = 0 := by simp at hj; exact hj
  rw [World.cell?_alloc_new]
  rfl
theorem conv_two (w : World) (y : UInt8) (z : Int) (hz : (y.toNat : Int) = z) :
    (convert 31 9 (.slice (some ⟨w.heap.size, 0, none⟩) 2 2)).run Try.prog (w.alloc (.cells #[.int .u8 195, .int .u8 z] 5)) = .ok (.string (Str [195, y])) (w.alloc (.cells #[.int .u8 195, .int .u8 z] 5)) := by
  subst hz
  refine conv_lit w [195, y] #[] _ (fun j hj => ?_) 2 2 rfl
  have : j = 0 ∨ j = 1 := by simp at hj; omega
  rw [World.cell?_alloc_new]
  rcases this with rfl | rfl <;> rfl
def two (y : UInt8) : Nat → List UInt8
  | 0 => []
  | k + 1 => two y k ++ [195, y]
theorem rgo_rep (r : Nat) (k c t : Nat) (h1 : okR r = true) (h2 : edgeR r = true) : rgo (List.replicate k r) c t = some (c + k, if k = 0 then t else r) := by
  induction k generalizing c t with
  | zero => rfl
  | succ k ih =>
    have h3 : r ≠ 46 := by intro e; subst e; simp [edgeR] at h2
    rw [List.replicate_succ, rgo, if_neg (by rintro (h | ⟨_, h⟩ | ⟨h, _⟩); rw [h1] at h; cases h; rw [h2] at h; cases h; exact h3 h), ih]
    congr 2
    · omega
    · split <;> simp
theorem rs_rep (c : UInt8) (k : Nat) (h : c.toNat < 128) : rs (List.replicate k c) = List.replicate k c.toNat := by
  induction k with
  | zero => rfl
  | succ k ih => rw [List.replicate_succ, rs_one _ _ h, ih, List.replicate_succ]
theorem two_comm (y : UInt8) (k : Nat) : two y k ++ [195, y] = [195, y] ++ two y k := by
  induction k with
  | zero => rfl
  | succ k ih => simp only [two]; conv => lhs; rw [ih]
                 simp
theorem two_length (y : UInt8) (k : Nat) : (two y k).length = 2 * k := by
  induction k with
  | zero => rfl
  | succ k ih => simp [two, ih]; omega
theorem rs_twos (y : UInt8) (k : Nat) (h1 : y.toNat / 64 = 2) : rs (two y k) = List.replicate k (val2 195 y) := by
  induction k with
  | zero => rfl
  | succ k ih =>
    have hv : 128 ≤ val2 195 y := by unfold val2; show 128 ≤ 195 % 32 * 64 + _; omega
    rw [two, two_comm, List.cons_append, List.cons_append, List.nil_append, rs_two _ _ _ (by decide) h1 hv, ih, List.replicate_succ]
def fitB (k : Nat) : Bool := decide (1 ≤ k) && decide (k ≤ 16)
theorem right_ones (c : UInt8) (k : Nat) (h1 : 97 ≤ c.toNat) (h2 : c.toNat ≤ 122) : rightB (Str (List.replicate k c)) = fitB k := by
  unfold rightB fitB
  rw [RS_str, rs_rep _ _ (by omega), rgo_rep _ _ _ _ (by unfold okR; simp; omega) (by unfold edgeR; simp; omega), Str_size, List.length_replicate]
  unfold rfin
  simp only [Nat.zero_add]
  by_cases h0 : k = 0
  · subst h0; simp
  · rw [if_neg h0]
    have : edgeR c.toNat = true := by unfold edgeR; simp; omega
    rw [this, Bool.and_true, Bool.eq_iff_iff]
    simp
    omega
theorem right_twos (y : UInt8) (k : Nat) (h1 : 160 ≤ y.toNat) (h2 : y.toNat ≤ 191) : rightB (Str (two y k)) = fitB k := by
  have hv : 224 ≤ val2 195 y ∧ val2 195 y ≤ 255 := by
    unfold val2
    show 224 ≤ 195 % 32 * 64 + _ ∧ 195 % 32 * 64 + _ ≤ 255
    omega
  unfold rightB fitB
  rw [RS_str, rs_twos _ _ (by omega), rgo_rep _ _ _ _ (by unfold okR; simp; omega) (by unfold edgeR; simp; omega), Str_size, two_length]
  unfold rfin
  simp only [Nat.zero_add]
  by_cases h0 : k = 0
  · subst h0; simp
  · rw [if_neg h0]
    have : edgeR (val2 195 y) = true := by unfold edgeR; simp; omega
    rw [this, Bool.and_true, Bool.eq_iff_iff]
    simp
    omega
set_option maxHeartbeats 3200000 in
theorem labelLong_walk (n c : Int) (k : Nat) (p q : Int) (x y : UInt8) (v : Bool) (w : World) (n0 : 0 ≤ n) (n1 : n ≤ 255) (c0 : 0 ≤ c) (c1 : c ≤ 255) (hk : n % 40 = (k : Int)) (hp : c % 26 = p) (hq : c % 32 = q) (k1 : k ≤ 39) (p0 : 0 ≤ p) (p1 : p ≤ 25) (q0 : 0 ≤ q) (q1 : q ≤ 31)
    (hx : Hid ((x.toNat : Int) = 97 + p)) (hy : Hid ((y.toNat : Int) = 160 + q)) (hv : Hid (fitB k = v)) (R1 : Hid (rightB (Str (List.replicate k x)) = v)) (R2 : Hid (rightB (Str (two y k)) = v)) (N1 : Hid ((RS (Str (List.replicate k x)) 0).length = k)) (N2 : Hid ((RS (Str (two y k)) 0).length = k)) :
    Calls Try.prog 9 #[.int .u8 n, .int .u8 c] w fun e w' => e = .returned (.bool true) ∧ Below w.heap.size w w' := by
  go_enter Try.func9, Try.ntmps9
  go_wp2_with fail
  refine (examples_any _).mono ?_
  rintro e w1 ⟨rfl, bb⟩
  go_wp2_with fail
  go_loopw [7, 8, 9] (fun a b i wr => ∃ (j : Nat) (A B : ByteArray), j ≤ k ∧ a = .string A ∧ b = .string B ∧ i = .int .i64 (j : Int) ∧ A.size ≤ 40 ∧ B.size ≤ 80 ∧ Hid (A = Str (List.replicate j x)) ∧ Hid (B = Str (two y j)) ∧ Below w.heap.size w wr) (fun _ _ i _ => k + 1 - (intOf i).toNat)
  case atStart => exact ⟨0, _, _, by omega, rfl, rfl, rfl, by decide, by decide, Lib.hid rfl, Lib.hid rfl, bb⟩
  case round =>
    obtain ⟨j, A, B, hj, rfl, rfl, rfl, hA, hB, EA, EB, hbw⟩ := hrel
    by_cases hlt : j < k
    · have hli : (j : Int) < (k : Int) := by omega
      have hc1 := conv_one wr x (97 + p) hx.out
      have hc2 := conv_two (wr.alloc (.cells #[.int .u8 (97 + p)] 5)) y (160 + q) hy.out
      rw [show (wr.alloc (.cells #[.int .u8 (97 + p)] 5)).heap.size = wr.heap.size + 1 by simp] at hc2
      have hs1 : (Str [x]).size ≤ 1 := by rw [Str_size]; simp
      have hs2 : (Str [195, y]).size ≤ 2 := by rw [Str_size]; simp
      have NA : Hid (A ++ Str [x] = Str (List.replicate (j + 1) x)) := Lib.hid (by rw [EA.out, Str_append, Str_list, ← List.replicate_succ'])
      have NB : Hid (B ++ Str [195, y] = Str (two y (j + 1))) := Lib.hid (by rw [EB.out, Str_append, Str_list]; rfl)
      have zA : (A ++ Str [x]).size ≤ 40 := by rw [NA.out, Str_size, List.length_replicate]; omega
      have zB : (B ++ Str [195, y]).size ≤ 80 := by rw [NB.out, Str_size, two_length]; omega
      generalize Str [x] = t1 at *
      generalize Str [195, y] = t2 at *
      have hsz := hbw.size
      go_wp2_with fail
      go_roundw
      case rel => exact ⟨j + 1, _, _, by omega, rfl, rfl, by go_num, zA, zB, NA, NB, (hbw.alloc hsz _).alloc (by simp; omega) _⟩
      case measure => simp [intOf]; omega
    · obtain rfl : j = k := by omega
      have hli : ¬ (j : Int) < (j : Int) := by omega
      rw [EA.out, EB.out]
      have zA : (Str (List.replicate j x)).size ≤ 40 := by rw [Str_size, List.length_replicate]; omega
      have zB : (Str (two y j)).size ≤ 80 := by rw [Str_size, two_length]; omega
      clear EA EB hA hB hx hy
      generalize Str (List.replicate j x) = A1 at *
      generalize Str (two y j) = B1 at *
      rcases (show j = 0 ∨ (1 ≤ j ∧ j ≤ 16) ∨ 17 ≤ j by omega) with h | h | h
      all_goals
        first
        | (have V : Hid (v = false) := Lib.hid (by rw [← hv.out]; unfold fitB; simp; omega))
        | (have V : Hid (v = true) := Lib.hid (by rw [← hv.out]; unfold fitB; simp; omega))
        first | (have h1 : (j : Int) < 1 := by omega) | (have h1 : 1 ≤ (j : Int) := by omega)
        first | (have h2 : (j : Int) ≤ 16 := by omega) | (have h2 : 16 < (j : Int) := by omega)
        clear h
        rw [V.out] at R1 R2
        go_wp2_with fail
        refine (runes_any _ _ (by omega)).mono ?_
        rw [N1.out]
        rintro e w9 ⟨rfl, b9⟩
        replace hbw := chain hbw b9
        clear b9
        go_wp2_with fail
        refine (runes_any _ _ (by omega)).mono ?_
        rw [N2.out]
        rintro e w9 ⟨rfl, b9⟩
        replace hbw := chain hbw b9
        clear b9
        go_wp2_with fail
        refine (right_any _ _ (by omega)).mono ?_
        rw [R1.out]
        rintro e w9 ⟨rfl, b9⟩
        replace hbw := chain hbw b9
        clear b9
        go_wp2_with fail
        refine (right_any _ _ (by omega)).mono ?_
        rw [R2.out]
        rintro e w9 ⟨rfl, b9⟩
        replace hbw := chain hbw b9
        clear b9
        go_wp2_with fail
        go_ret
        refine ⟨ret_true ?_, hbw⟩
        first | (simp; done) | (simp; omega)
theorem labelLong_law (a0 a1 : Int) (w : World) (w0 : (Lit.int .u8 a0).wf = true) (w1 : (Lit.int .u8 a1).wf = true) :
    Calls Try.prog 9 #[.int .u8 a0, .int .u8 a1] w fun e w' => e = .returned (.bool true) ∧ Below w.heap.size w w' := by
  have h0 := bounds_u8 w0
  have h1 := bounds_u8 w1
  obtain ⟨n, rfl⟩ := Int.eq_ofNat_of_zero_le h0.1
  obtain ⟨c, rfl⟩ := Int.eq_ofNat_of_zero_le h1.1
  have ex : ((UInt8.ofNat (97 + c % 26)).toNat : Int) = 97 + (c : Int) % 26 := by rw [UInt8.toNat_ofNat', Nat.mod_eq_of_lt (by omega)]; omega
  have ey : ((UInt8.ofNat (160 + c % 32)).toNat : Int) = 160 + (c : Int) % 32 := by rw [UInt8.toNat_ofNat', Nat.mod_eq_of_lt (by omega)]; omega
  generalize UInt8.ofNat (97 + c % 26) = x at *
  generalize UInt8.ofNat (160 + c % 32) = y at *
  exact labelLong_walk n c (n % 40) _ _ x y _ w (by omega) (by omega) (by omega) (by omega) (by omega) rfl rfl (by omega) (by omega) (by omega) (by omega) (by omega) (Lib.hid ex) (Lib.hid ey) (Lib.hid rfl)
    (Lib.hid (right_ones x _ (by omega) (by omega))) (Lib.hid (right_twos y _ (by omega) (by omega)))
    (Lib.hid (by rw [RS_str, rs_rep _ _ (by omega), List.length_replicate])) (Lib.hid (by rw [RS_str, rs_twos _ _ (by omega), List.length_replicate]))
end Go.Proofs.Ytjcodjdhomhlpaa
