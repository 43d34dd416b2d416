/-
  upper, allowed, edge, Runes, Right of package label.
-/
import Derived.Test.YtjcodjdhomhlpaaRunes
import Derived.Deep.Light
namespace Go.Proofs.Ytjcodjdhomhlpaa
open Go.RowKit
set_option linter.unusedVariables false

def upR (r : Nat) : Bool := decide (65 ≤ r) && decide (r ≤ 90)
def okR (r : Nat) : Bool := decide ((97 ≤ r ∧ r ≤ 122) ∨ (65 ≤ r ∧ r ≤ 90) ∨ (48 ≤ r ∧ r ≤ 57) ∨ r = 45 ∨ r = 46 ∨ (192 ≤ r ∧ r ≤ 383))
def edgeR (r : Nat) : Bool := decide (r ≠ 45 ∧ r ≠ 46)

set_option maxHeartbeats 400000 in
theorem upper_is (r : Nat) (v : Bool) (w : World) (hr : r ≤ 1114111) (hv : upR r = v) :
    Calls Try.prog 22 #[.int .i32 (r : Int)] w fun e w' => e = .returned (.bool v) ∧ w = w' := by
  subst hv
  rcases (show r < 65 ∨ (65 ≤ r ∧ r ≤ 90) ∨ 90 < r by omega) with h | h | h
  · have e : upR r = false := by simp [upR]; omega
    rw [e]
    have : (r : Int) < 65 := by omega
    go_enter Try.func22, Try.ntmps22
    go_wp2_with fail
    all_goals go_ret
    all_goals exact ⟨ret_bool (by simp; try omega), rfl⟩
  · have e : upR r = true := by simp [upR]; omega
    rw [e]
    obtain ⟨h1, h2⟩ := h
    have : 65 ≤ (r : Int) := by omega
    have : (r : Int) ≤ 90 := by omega
    go_enter Try.func22, Try.ntmps22
    go_wp2_with fail
    all_goals go_ret
    all_goals exact ⟨ret_bool (by simp; try omega), rfl⟩
  · have e : upR r = false := by simp [upR]; omega
    rw [e]
    have : 90 < (r : Int) := by omega
    go_enter Try.func22, Try.ntmps22
    go_wp2_with fail
    all_goals go_ret
    all_goals exact ⟨ret_bool (by simp; try omega), rfl⟩
set_option maxHeartbeats 800000 in
theorem edge_is (r : Nat) (v : Bool) (w : World) (hr : r ≤ 1114111) (hv : edgeR r = v) :
    Calls Try.prog 25 #[.int .i32 (r : Int)] w fun e w' => e = .returned (.bool v) ∧ w = w' := by
  subst hv
  rcases (show r = 45 ∨ r = 46 ∨ (r ≠ 45 ∧ r ≠ 46) by omega) with rfl | rfl | h
  · go_enter Try.func25, Try.ntmps25
    go_wp2_with fail
    all_goals go_ret
    all_goals exact ⟨rfl, rfl⟩
  · go_enter Try.func25, Try.ntmps25
    go_wp2_with fail
    all_goals go_ret
    all_goals exact ⟨rfl, rfl⟩
  · have e : edgeR r = true := by simpa [edgeR] using h
    rw [e]
    have h1 : ((r : Int) != 45) = true := by simp; omega
    have h2 : ((r : Int) != 46) = true := by simp; omega
    clear h
    go_enter Try.func25, Try.ntmps25
    go_wp2_with fail
    all_goals go_ret
    all_goals exact ⟨ret_bool (by simp), rfl⟩
/-- The ways that a rune may go. -/
theorem rune_ways (r : Nat) : r < 45 ∨ r = 45 ∨ r = 46 ∨ r = 47 ∨ (48 ≤ r ∧ r ≤ 57) ∨ (58 ≤ r ∧ r ≤ 64) ∨ (65 ≤ r ∧ r ≤ 90) ∨ (91 ≤ r ∧ r ≤ 96) ∨ (97 ≤ r ∧ r ≤ 122) ∨ (123 ≤ r ∧ r ≤ 191) ∨ (192 ≤ r ∧ r ≤ 383) ∨ 384 ≤ r := by omega
set_option maxRecDepth 20000 in
set_option maxHeartbeats 3200000 in
theorem allowed_is (r : Nat) (v : Bool) (w : World) (hr : r ≤ 1114111) (hv : okR r = v) :
    Calls Try.prog 24 #[.int .i32 (r : Int)] w fun e w' => e = .returned (.bool v) ∧ w = w' := by
  subst hv
  have ok : ∀ b, (b = decide ((97 ≤ r ∧ r ≤ 122) ∨ (65 ≤ r ∧ r ≤ 90) ∨ (48 ≤ r ∧ r ≤ 57) ∨ r = 45 ∨ r = 46 ∨ (192 ≤ r ∧ r ≤ 383))) → okR r = b := fun b h => h.symm
  rcases rune_ways r with h | h | h | h | h | h | h | h | h | h | h | h
  all_goals
    first
    | (have e : okR r = true := ok _ (by symm; rw [decide_eq_true_eq]; omega)
       rw [e])
    | (have e : okR r = false := ok _ (by symm; rw [decide_eq_false_iff_not]; omega)
       rw [e])
    clear ok e
  · have h1 : (r : Int) < 45 := by omega
    have h8 : ((r : Int) == 45) = false := by simp; omega
    have h9 : ((r : Int) == 46) = false := by simp; omega
    clear h
    go_enter Try.func24, Try.ntmps24
    go_wp2_with fail
    refine (upper_is _ false _ (by omega) (by simp [upR]; omega)).mono ?_
    rintro e w9 ⟨rfl, rfl⟩
    go_wp2_with fail
    go_ret
    exact ⟨ret_bool (by simp; try omega), rfl⟩
  · subst h
    go_enter Try.func24, Try.ntmps24
    go_wp2_with fail
    refine (upper_is _ false _ (by omega) (by simp [upR])).mono ?_
    rintro e w9 ⟨rfl, rfl⟩
    go_wp2_with fail
    go_ret
    exact ⟨ret_bool (by simp; try omega), rfl⟩
  · subst h
    go_enter Try.func24, Try.ntmps24
    go_wp2_with fail
    refine (upper_is _ false _ (by omega) (by simp [upR])).mono ?_
    rintro e w9 ⟨rfl, rfl⟩
    go_wp2_with fail
    go_ret
    exact ⟨ret_bool (by simp; try omega), rfl⟩
  · subst h
    go_enter Try.func24, Try.ntmps24
    go_wp2_with fail
    refine (upper_is _ false _ (by omega) (by simp [upR])).mono ?_
    rintro e w9 ⟨rfl, rfl⟩
    go_wp2_with fail
    go_ret
    exact ⟨ret_bool (by simp; try omega), rfl⟩
  · have h1 : 48 ≤ (r : Int) := by omega
    have h2 : (r : Int) ≤ 57 := by omega
    have h8 : ((r : Int) == 45) = false := by simp; omega
    have h9 : ((r : Int) == 46) = false := by simp; omega
    clear h
    go_enter Try.func24, Try.ntmps24
    go_wp2_with fail
    refine (upper_is _ false _ (by omega) (by simp [upR]; omega)).mono ?_
    rintro e w9 ⟨rfl, rfl⟩
    go_wp2_with fail
    go_ret
    exact ⟨ret_bool (by simp; try omega), rfl⟩
  · have h1 : 57 < (r : Int) := by omega
    have h2 : (r : Int) < 65 := by omega
    have h8 : ((r : Int) == 45) = false := by simp; omega
    have h9 : ((r : Int) == 46) = false := by simp; omega
    clear h
    go_enter Try.func24, Try.ntmps24
    go_wp2_with fail
    refine (upper_is _ false _ (by omega) (by simp [upR]; omega)).mono ?_
    rintro e w9 ⟨rfl, rfl⟩
    go_wp2_with fail
    go_ret
    exact ⟨ret_bool (by simp; try omega), rfl⟩
  · have h1 : 65 ≤ (r : Int) := by omega
    have h2 : (r : Int) ≤ 90 := by omega
    have h8 : ((r : Int) == 45) = false := by simp; omega
    have h9 : ((r : Int) == 46) = false := by simp; omega
    clear h
    go_enter Try.func24, Try.ntmps24
    go_wp2_with fail
    refine (upper_is _ true _ (by omega) (by simp [upR]; omega)).mono ?_
    rintro e w9 ⟨rfl, rfl⟩
    go_wp2_with fail
    go_ret
    exact ⟨ret_bool (by simp; try omega), rfl⟩
  · have h1 : 90 < (r : Int) := by omega
    have h2 : (r : Int) < 97 := by omega
    have h8 : ((r : Int) == 45) = false := by simp; omega
    have h9 : ((r : Int) == 46) = false := by simp; omega
    clear h
    go_enter Try.func24, Try.ntmps24
    go_wp2_with fail
    refine (upper_is _ false _ (by omega) (by simp [upR]; omega)).mono ?_
    rintro e w9 ⟨rfl, rfl⟩
    go_wp2_with fail
    go_ret
    exact ⟨ret_bool (by simp; try omega), rfl⟩
  · have h1 : 97 ≤ (r : Int) := by omega
    have h2 : (r : Int) ≤ 122 := by omega
    have h8 : ((r : Int) == 45) = false := by simp; omega
    have h9 : ((r : Int) == 46) = false := by simp; omega
    clear h
    go_enter Try.func24, Try.ntmps24
    go_wp2_with fail
    go_ret
    exact ⟨ret_bool (by simp; try omega), rfl⟩
  · have h1 : 122 < (r : Int) := by omega
    have h2 : (r : Int) < 192 := by omega
    have h8 : ((r : Int) == 45) = false := by simp; omega
    have h9 : ((r : Int) == 46) = false := by simp; omega
    clear h
    go_enter Try.func24, Try.ntmps24
    go_wp2_with fail
    refine (upper_is _ false _ (by omega) (by simp [upR]; omega)).mono ?_
    rintro e w9 ⟨rfl, rfl⟩
    go_wp2_with fail
    go_ret
    exact ⟨ret_bool (by simp; try omega), rfl⟩
  · have h1 : 192 ≤ (r : Int) := by omega
    have h2 : (r : Int) ≤ 383 := by omega
    have h8 : ((r : Int) == 45) = false := by simp; omega
    have h9 : ((r : Int) == 46) = false := by simp; omega
    clear h
    go_enter Try.func24, Try.ntmps24
    go_wp2_with fail
    refine (upper_is _ false _ (by omega) (by simp [upR]; omega)).mono ?_
    rintro e w9 ⟨rfl, rfl⟩
    go_wp2_with fail
    go_ret
    exact ⟨ret_bool (by simp; try omega), rfl⟩
  · have h1 : 383 < (r : Int) := by omega
    have h8 : ((r : Int) == 45) = false := by simp; omega
    have h9 : ((r : Int) == 46) = false := by simp; omega
    clear h
    go_enter Try.func24, Try.ntmps24
    go_wp2_with fail
    refine (upper_is _ false _ (by omega) (by simp [upR]; omega)).mono ?_
    rintro e w9 ⟨rfl, rfl⟩
    go_wp2_with fail
    go_ret
    exact ⟨ret_bool (by simp; try omega), rfl⟩
set_option maxHeartbeats 800000 in
theorem runes_any (s : ByteArray) (w : World) (hs : s.size ≤ 140737488351232) :
    Calls Try.prog 13 #[.string s] w fun e w' => e = .returned (.int .i64 ((RS s 0).length : Int)) ∧ Below w.heap.size w w' := by
  have hl := RS_length s 0
  generalize hN : (RS s 0).length = N at *
  have HN := Lib.hid hN
  clear hN
  go_enter Try.func13, Try.ntmps13
  go_wp2_with fail
  go_loopw [3, 6] (fun c _ wr => ∃ (k n : Nat), k ≤ s.size ∧ c = .int .i64 (n : Int) ∧ Hid (n + (RS s k).length = N) ∧ n ≤ N ∧ wr.heap[w.heap.size]? = some (.stringIter s k) ∧ Below w.heap.size w wr) (fun _ _ wr => s.size - wr.iterPos w.heap.size)
  case atStart => exact ⟨0, 0, by omega, rfl, Lib.hid (by rw [HN.out]; omega), by omega, World.iter_heap _ _ _, (Below.refl _ _).alloc (Nat.le_refl _) _⟩
  case round =>
    obtain ⟨k, n, hk, rfl, hn, hnN, hit, hbw⟩ := hrel
    have IT := Lib.hid hit
    by_cases hlt : k < s.size
    · have hnext := fun ty => next_rune wr w.heap.size s k ty IT.out hlt
      have hit2 := Lib.hid (Lib.iterAt_heap wr w.heap.size s k (k + sW s k) IT.out)
      have hbw2 : Below w.heap.size w (wr.iterAt w.heap.size s (k + sW s k)) := Lib.below_iterAt hbw (Nat.le_refl _) s _
      have NX : Hid (n + 1 + (RS s (k + sW s k)).length = N) := Lib.hid (by have := hn.out; rw [RS_step s k hlt, List.length_cons] at this; omega)
      have hW := sW_le s k hlt
      have hW1 := sW_pos s k
      have IP := Lib.hid (iterPos_of IT.out)
      have IQ := Lib.hid (iterPos_of hit2.out)
      have hn1 : n + 1 ≤ N := by have := NX.out; omega
      clear hit hn
      go_wp2_with fail
      go_roundw
      case rel => exact ⟨k + sW s k, n + 1, hW, by go_num, NX, hn1, hit2.out, hbw2⟩
      case measure => rw [IP.out, IQ.out]; omega
    · have hend := fun ty => Lib.run_next_end_at (P := Try.prog) wr w.heap.size s k ty IT.out (by omega)
      have E : n = N := by have := hn.out; rw [RS_end s k (by omega)] at this; simpa using this
      subst E
      clear hit hn
      go_wp2_with fail
      go_ret
      exact ⟨rfl, hbw⟩
end Go.Proofs.Ytjcodjdhomhlpaa
