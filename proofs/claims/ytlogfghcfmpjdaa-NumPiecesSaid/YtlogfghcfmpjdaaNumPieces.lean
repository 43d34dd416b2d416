import Derived.Test.YtlogfghcfmpjdaaPutFacts
namespace Go.Proofs.Ytlogfghcfmpjdaa
open Go.RowKit

theorem take_val_split (l : List UInt8) (x y : Nat) (h : x + y ≤ l.length) : M.val (l.take (x + y)) = M.val (l.take x) * 256 ^ y + M.val ((l.drop x).take y) := by
  rw [List.take_add, M.val_append]
  rw [List.length_take, List.length_drop, Nat.min_eq_left (by omega)]
theorem pieces_eq (b : ByteArray) (x y : Nat) (h : x + y ≤ b.size) :
    M.val (b.data.toList.take (x + y)) = M.val (b.data.toList.take x) * 256 ^ y + M.val ((b.extract x b.size).data.toList.take y) := by
  rw [take_val_split _ _ _ (by rw [size_list]; exact h), extract_list]
  congr 2
  rw [List.take_take, List.take_eq_take_iff]
  simp
theorem pieces_rest (b : ByteArray) (x y : Nat) (h : x + y ≤ b.size) : (b.extract x b.size).extract y (b.extract x b.size).size = b.extract (x + y) b.size := by
  apply eq_of_data
  rw [extract_list, extract_list, extract_list, List.drop_take, List.drop_drop, List.take_take, List.take_eq_take_iff]
  simp; omega
theorem val_take_lt (b : ByteArray) (x y : Nat) (hx : x ≤ 4) (hy : y ≤ 4) : M.val (b.data.toList.take x) * 256 ^ y < 18446744073709551616 := by
  have h1 := M.val_lt (b.data.toList.take x)
  have h2 : 256 ^ (b.data.toList.take x).length ≤ 256 ^ 4 := Nat.pow_le_pow_right (by decide) (by simp; omega)
  have h3 : 256 ^ y ≤ 256 ^ 4 := Nat.pow_le_pow_right (by decide) hy
  have e : (256 : Nat) ^ 4 = 4294967296 := by simp
  rw [e] at h2 h3
  have hp : 0 < 256 ^ y := Nat.pow_pos (by decide)
  generalize M.val (b.data.toList.take x) = v at *
  generalize 256 ^ y = u at *
  have h4 : v * u ≤ 4294967295 * 4294967296 := Nat.mul_le_mul (by omega) (by omega)
  omega

theorem wrap_pieces (va vb vc y : Nat) (hk : va = vb * 256 ^ y + vc) (hv : va < 18446744073709551616) :
    ((va : Int) == IntKind.u64.wrap (IntKind.u64.wrap ((vb : Int) * 2 ^ (8 * y)) + (vc : Int))) = true := by
  have e : (256 : Nat) ^ y = 2 ^ (8 * y) := by rw [Nat.pow_mul]
  rw [e] at hk
  have h1 : vb * 2 ^ (8 * y) < 18446744073709551616 := by rw [hk] at hv; exact Nat.lt_of_le_of_lt (Nat.le_add_right _ _) hv
  have c1 : (vb : Int) * 2 ^ (8 * y) = ((vb * 2 ^ (8 * y) : Nat) : Int) := by push_cast; rfl
  rw [c1, wrap_nat _ h1, ← Int.natCast_add, ← hk, wrap_nat _ hv]
  simp
theorem val_take_room (b : ByteArray) (x : Nat) (hx : x ≤ 8) : M.val (b.data.toList.take x) < 18446744073709551616 := by
  have h1 := M.val_lt (b.data.toList.take x)
  have h2 : 256 ^ (b.data.toList.take x).length ≤ 256 ^ 8 := Nat.pow_le_pow_right (by decide) (by rw [List.length_take]; omega)
  have e : (256 : Nat) ^ 8 = 18446744073709551616 := by simp
  rw [e] at h2
  exact Nat.lt_of_lt_of_le h1 h2

set_option maxHeartbeats 400000 in
theorem numPieces_long (b rb ra : ByteArray) (i j : Int) (p q : Nat) (va vb vc : Nat) (w : World) (hp : p ≤ 3) (hq : q ≤ 3) (i0 : 0 ≤ i) (i1 : i ≤ 255) (j0 : 0 ≤ j) (j1 : j ≤ 255) (hi : i % 4 = (p : Int)) (hj : j % 4 = (q : Int)) (h : 1 + p + (1 + q) ≤ b.size)
    (hva : M.val (b.data.toList.take (1 + p + (1 + q))) = va) (hvb : M.val (b.data.toList.take (1 + p)) = vb) (hvc : M.val (rb.data.toList.take (1 + q)) = vc) (hrb : b.extract (1 + p) b.size = rb) (hra : b.extract (1 + p + (1 + q)) b.size = ra) (hrc : rb.extract (1 + q) rb.size = ra)
    (ht : ((va : Int) == IntKind.u64.wrap (IntKind.u64.wrap ((vb : Int) * 2 ^ (8 * (1 + q))) + (vc : Int))) = true) (k3 : takeOk rb (1 + (q : Int)) = true) :
    Calls Try.prog 8 #[.string b, .int .u8 i, .int .u8 j] w fun e w' => e = .returned (.bool true) ∧ Below w.heap.size w w' := by
  have E1 := Lib.hid (show (1 + (p : Int)).toNat = 1 + p by omega)
  have E2 := Lib.hid (show (1 + (q : Int)).toNat = 1 + q by omega)
  have E3 := Lib.hid (show (1 + (p : Int) + (1 + (q : Int))).toNat = 1 + p + (1 + q) by omega)
  have k1 := Lib.hid (show takeOk b (1 + (p : Int) + (1 + (q : Int))) = true by simp [takeOk]; omega)
  have k2 := Lib.hid (show takeOk b (1 + (p : Int)) = true by simp [takeOk]; omega)
  have K3 := Lib.hid k3
  have VA := Lib.hid hva
  have VB := Lib.hid hvb
  have VC := Lib.hid hvc
  have RA := Lib.hid hra
  have RB := Lib.hid hrb
  have RC := Lib.hid hrc
  have T := Lib.hid ht
  have hlt : decide ((b.size : Int) < 1 + (p : Int) + (1 + (q : Int))) = false := by simp; omega
  clear k3 hva hvb hvc hra hrb hrc ht
  go_enter Try.func8, Try.ntmps8
  go_wp2_with fail
  refine (examples_any _).mono ?_
  rintro e w1 ⟨rfl, b1⟩
  go_wp2_with fail
  refine (take_yes _ _ _ k1.out).mono ?_
  rw [E3.out, VA.out, RA.out]
  rintro e w2 ⟨rfl, b2⟩
  go_wp2_with fail
  refine (take_yes _ _ _ k2.out).mono ?_
  rw [E1.out, VB.out, RB.out]
  rintro e w3 ⟨rfl, b3⟩
  go_wp2_with fail
  refine (take_yes _ _ _ K3.out).mono ?_
  rw [E2.out, VC.out, RC.out]
  rintro e w4 ⟨rfl, b4⟩
  have bb := (((b1.trans (b2.mono b1.size)).trans (b3.mono (Nat.le_trans b1.size b2.size))).trans (b4.mono (Nat.le_trans b1.size (Nat.le_trans b2.size b3.size))))
  clear b1 b2 b3 b4
  have t := T.out
  have hsl : ∀ W, (Instr.slice 9 (.string b) (some (.int .i64 (1 + (p : Int) + (1 + (q : Int))))) none none).run Try.prog W = .ok (.string ra) W := fun W => by
    rw [run_slice_string_l W 9 b Try.underlying9 .i64 _ (by omega) (by omega), E3.out, RA.out]
  go_wp2_with fail
  go_ret
  exact ⟨ret_true (by simp), bb⟩

set_option maxHeartbeats 400000 in
theorem numPieces_mid (b rb : ByteArray) (i j : Int) (p q : Nat) (vb : Nat) (w : World) (hp : p ≤ 3) (hq : q ≤ 3) (i0 : 0 ≤ i) (i1 : i ≤ 255) (j0 : 0 ≤ j) (j1 : j ≤ 255) (hi : i % 4 = (p : Int)) (hj : j % 4 = (q : Int)) (h : 1 + p ≤ b.size) (hh : b.size < 1 + p + (1 + q))
    (hvb : M.val (b.data.toList.take (1 + p)) = vb) (hrb : b.extract (1 + p) b.size = rb) (k3 : (rb.size : Int) < 1 + (q : Int)) :
    Calls Try.prog 8 #[.string b, .int .u8 i, .int .u8 j] w fun e w' => e = .returned (.bool true) ∧ Below w.heap.size w w' := by
  have E1 := Lib.hid (show (1 + (p : Int)).toNat = 1 + p by omega)
  have k2 := Lib.hid (show takeOk b (1 + (p : Int)) = true by simp [takeOk]; omega)
  have VB := Lib.hid hvb
  have RB := Lib.hid hrb
  have hlt : decide ((b.size : Int) < 1 + (p : Int) + (1 + (q : Int))) = true := by simp; omega
  clear hvb hrb
  go_enter Try.func8, Try.ntmps8
  go_wp2_with fail
  refine (examples_any _).mono ?_
  rintro e w1 ⟨rfl, b1⟩
  go_wp2_with fail
  refine (take_short _ _ _ (by omega) (by omega) (by omega)).mono ?_
  rintro e w2 ⟨rfl, rfl⟩
  go_wp2_with fail
  refine (take_yes _ _ _ k2.out).mono ?_
  rw [E1.out, VB.out, RB.out]
  rintro e w3 ⟨rfl, b3⟩
  go_wp2_with fail
  refine (take_short _ _ _ (by omega) (by omega) (by omega)).mono ?_
  rintro e w4 ⟨rfl, rfl⟩
  have bb := b1.trans (b3.mono b1.size)
  clear b1 b3
  go_wp2_with fail
  go_ret
  exact ⟨ret_true (by simp; omega), bb⟩
set_option maxHeartbeats 400000 in
theorem numPieces_low (b : ByteArray) (i j : Int) (p q : Nat) (w : World) (hp : p ≤ 3) (hq : q ≤ 3) (i0 : 0 ≤ i) (i1 : i ≤ 255) (j0 : 0 ≤ j) (j1 : j ≤ 255) (hi : i % 4 = (p : Int)) (hj : j % 4 = (q : Int)) (h : b.size < 1 + p) :
    Calls Try.prog 8 #[.string b, .int .u8 i, .int .u8 j] w fun e w' => e = .returned (.bool true) ∧ Below w.heap.size w w' := by
  have hlt : decide ((b.size : Int) < 1 + (p : Int) + (1 + (q : Int))) = true := by simp; omega
  have hz : ((⟨#[]⟩ : ByteArray).size : Int) < 1 + (q : Int) := by show (0 : Int) < _; omega
  have HZ := Lib.hid hz
  clear hz
  go_enter Try.func8, Try.ntmps8
  go_wp2_with fail
  refine (examples_any _).mono ?_
  rintro e w1 ⟨rfl, b1⟩
  go_wp2_with fail
  refine (take_short _ _ _ (by omega) (by omega) (by omega)).mono ?_
  rintro e w2 ⟨rfl, rfl⟩
  go_wp2_with fail
  refine (take_short _ _ _ (by omega) (by omega) (by omega)).mono ?_
  rintro e w3 ⟨rfl, rfl⟩
  go_wp2_with fail
  refine (take_short _ _ _ (by omega) (by omega) HZ.out).mono ?_
  rintro e w4 ⟨rfl, rfl⟩
  go_wp2_with fail
  go_ret
  exact ⟨ret_true (by simp; omega), b1⟩
theorem numPieces_law (a0 : ByteArray) (a1 a2 : Int) (w : World) (_z0 : a0.size ≤ 140737488351232) (w1 : (Lit.int .u8 a1).wf = true) (w2 : (Lit.int .u8 a2).wf = true) :
    Calls Try.prog 8 #[.string a0, .int .u8 a1, .int .u8 a2] w fun e w' => e = .returned (.bool true) ∧ Below w.heap.size w w' := by
  obtain ⟨i0, i1⟩ := bounds_u8 w1
  obtain ⟨j0, j1⟩ := bounds_u8 w2
  have hi : a1 % 4 = ((a1 % 4).toNat : Int) := by omega
  have hj : a2 % 4 = ((a2 % 4).toNat : Int) := by omega
  generalize (a1 % 4).toNat = p at hi
  generalize (a2 % 4).toNat = q at hj
  have hp : p ≤ 3 := by omega
  have hq : q ≤ 3 := by omega
  by_cases h : a0.size < 1 + p
  · exact numPieces_low a0 a1 a2 p q w hp hq i0 i1 j0 j1 hi hj h
  by_cases hh : a0.size < 1 + p + (1 + q)
  · exact numPieces_mid a0 _ a1 a2 p q _ w hp hq i0 i1 j0 j1 hi hj (by omega) hh rfl rfl (by simp; omega)
  · refine numPieces_long a0 _ _ a1 a2 p q _ _ _ w hp hq i0 i1 j0 j1 hi hj (by omega) rfl rfl rfl rfl rfl (pieces_rest a0 _ _ (by omega)) ?_ ?_
    · exact wrap_pieces _ _ _ _ (pieces_eq a0 _ _ (by omega)) (val_take_room a0 _ (by omega))
    · simp [takeOk]; omega
end Go.Proofs.Ytlogfghcfmpjdaa
