import Derived.Test.YtemhlhcaahaecaaProtoAll
import Derived.Test.YtemhlhcaahaecaaProtoMade
namespace Go.Proofs.Ytemhlhcaahaecaa
open Go.RowKit
set_option linter.unusedVariables false
set_option linter.unusedSimpArgs false
theorem pc_half (x : Nat) (h : x < 2 ^ 63) : pc 64 x = x % 2 + pc 64 (x / 2) := by
  rw [pc_succ 63 (x / 2), Nat.div_eq_of_lt (a := x / 2) (by omega)]
  show x % 2 + pc 63 (x / 2) = _
  omega
theorem pc_small (x : Nat) (h : x < 65536) (k : Nat) : pc (16 + k) x = pc 16 x := by
  induction k with
  | zero => rfl
  | succ k ih =>
    have hp : 2 ^ 16 ≤ 2 ^ (16 + k) := Nat.pow_le_pow_right (by decide) (by omega)
    rw [← Nat.add_assoc, pc_succ, ih, Nat.div_eq_of_lt (by omega)]; rfl
/-- How many bytes the fields of a request of a place have, with so many letters. -/
def wantI (nm : ByteArray) (l : Nat) : Nat → Int
  | 0 => 1 + (nm.size : Int)
  | 1 => 3 + (nm.size : Int)
  | 2 => 12 + (l : Int)
  | 3 => 39 + (nm.size : Int) + (l : Int)
  | 4 => 33
  | 5 => 29
  | 6 => 31
  | 7 => 30
  | 8 => 29
  | 9 => 58
  | 10 => 33
  | 11 => 0
  | 12 => 0
  | _ => 0
theorem plK_cases (op : Int) : plK op = 0 ∨ plK op = 1 ∨ plK op = 2 ∨ plK op = 3 ∨ plK op = 4 ∨ plK op = 5 ∨ plK op = 6 ∨ plK op = 7 ∨ plK op = 8 ∨ plK op = 9 ∨ plK op = 10 ∨ plK op = 11 ∨ plK op = 12 := by have := plK_lt op; omega
set_option maxHeartbeats 3200000 in
set_option maxRecDepth 20000 in
theorem protoSizes_walk (id : Int) (op : Int) (nm : ByteArray) (hd : ByteArray) (to : ByteArray) (li : Int) (ob : Int) (ri : Int) (ba : Int) (ex : Int) (le : Int) (sf : Bool) (fr : Int) (mo : Int) (r : Value) (s : ByteArray) (e0 : Int) (w : World) (w0 : (Lit.int .i64 op).wf = true) (w1 : (Lit.int .i64 ri).wf = true) (hs : nm.size ≤ 140737488351232)
    (M : Hid (∀ w, Calls Try.prog 14 #[.agg #[.int .i64 op, .string nm, .string hd, .string to, .int .i64 li, .int .i64 ob, .int .i64 ri, .int .i64 ba, .int .i64 ex, .int .i32 le, .bool sf, .int .i64 fr, .int .i64 mo]] w fun e w' => e = .returned r ∧ Below w.heap.size w w'))
    (E : Hid (∀ w, Calls Try.prog 15 #[.int .i64 id, r] w fun e w' => e = .returned (.tuple #[.string s, .int .i64 e0]) ∧ Below w.heap.size w w'))
    (H : Hid ((e0 = 1 ∧ s = ⟨#[]⟩) ∨ (e0 = 0 ∧ (s.size : Int) = 6 + wantI nm (pc 64 ri.toNat) (plK op)))) :
    Calls Try.prog 7 #[.int .i64 id, .agg #[.int .i64 op, .string nm, .string hd, .string to, .int .i64 li, .int .i64 ob, .int .i64 ri, .int .i64 ba, .int .i64 ex, .int .i32 le, .bool sf, .int .i64 fr, .int .i64 mo]] w fun e w' => e = .returned (.bool true) ∧ Below w.heap.size w w' := by
  have hw := w0
  have hw1 := w1
  simp only [Lit.wf, Bool.and_eq_true, decide_eq_true_eq] at hw hw1
  have hmin : IntKind.i64.min = -9223372036854775808 := rfl
  have hmax : IntKind.i64.max = 9223372036854775807 := rfl
  rw [hmin] at hw
  rw [hmax] at hw1
  have o1 := hw.1
  have r1 := hw1.2
  clear hw hw1 hmin hmax w0 w1
  go_enter Try.func7, Try.ntmps7
  go_wp2_with fail
  refine (examples_any _).mono ?_
  rintro e w1 ⟨rfl, b1⟩
  have K1 : w1.heap[w.heap.size]? = some (.cells #[.int .i64 op, .string nm, .string hd, .string to, .int .i64 li, .int .i64 ob, .int .i64 ri, .int .i64 ba, .int .i64 ex, .int .i32 le, .bool sf, .int .i64 fr, .int .i64 mo] 34) := kept1 b1
  have B1 : Below w.heap.size w w1 := ((Below.refl _ _).alloc (Nat.le_refl _) _).trans (b1.mono (by simp))
  clear b1
  have k0 : w1.cell? ⟨w.heap.size, 0, none⟩ = some (.int .i64 op) := by rw [Go.Joins.cell_of_block K1]; rfl
  have k1 : w1.cell? ⟨w.heap.size, 1, none⟩ = some (.string nm) := by rw [Go.Joins.cell_of_block K1]; rfl
  have k2 : w1.cell? ⟨w.heap.size, 2, none⟩ = some (.string hd) := by rw [Go.Joins.cell_of_block K1]; rfl
  have k3 : w1.cell? ⟨w.heap.size, 3, none⟩ = some (.string to) := by rw [Go.Joins.cell_of_block K1]; rfl
  have k4 : w1.cell? ⟨w.heap.size, 4, none⟩ = some (.int .i64 li) := by rw [Go.Joins.cell_of_block K1]; rfl
  have k5 : w1.cell? ⟨w.heap.size, 5, none⟩ = some (.int .i64 ob) := by rw [Go.Joins.cell_of_block K1]; rfl
  have k6 : w1.cell? ⟨w.heap.size, 6, none⟩ = some (.int .i64 ri) := by rw [Go.Joins.cell_of_block K1]; rfl
  have k7 : w1.cell? ⟨w.heap.size, 7, none⟩ = some (.int .i64 ba) := by rw [Go.Joins.cell_of_block K1]; rfl
  have k8 : w1.cell? ⟨w.heap.size, 8, none⟩ = some (.int .i64 ex) := by rw [Go.Joins.cell_of_block K1]; rfl
  have k9 : w1.cell? ⟨w.heap.size, 9, none⟩ = some (.int .i32 le) := by rw [Go.Joins.cell_of_block K1]; rfl
  have k10 : w1.cell? ⟨w.heap.size, 10, none⟩ = some (.bool sf) := by rw [Go.Joins.cell_of_block K1]; rfl
  have k11 : w1.cell? ⟨w.heap.size, 11, none⟩ = some (.int .i64 fr) := by rw [Go.Joins.cell_of_block K1]; rfl
  have k12 : w1.cell? ⟨w.heap.size, 12, none⟩ = some (.int .i64 mo) := by rw [Go.Joins.cell_of_block K1]; rfl
  go_wp2_with fail
  refine (M.out _).mono ?_
  rintro e w2 ⟨rfl, b2⟩
  have K2 := kept K1 b2
  clear k0 k1 k2 k3 k4 k5 k6 k7 k8 k9 k10 k11 k12 K1
  go_wp2_with fail
  refine (E.out _).mono ?_
  rintro e w3 ⟨rfl, b3⟩
  have K3 := kept K2 b3
  have B := Lib.hid (chain (chain B1 b2) b3)
  clear K2 B1 b2 b3 M E
  have k0 : w3.cell? ⟨w.heap.size, 0, none⟩ = some (.int .i64 op) := by rw [Go.Joins.cell_of_block K3]; rfl
  have k1 : w3.cell? ⟨w.heap.size, 1, none⟩ = some (.string nm) := by rw [Go.Joins.cell_of_block K3]; rfl
  have k6 : w3.cell? ⟨w.heap.size, 6, none⟩ = some (.int .i64 ri) := by rw [Go.Joins.cell_of_block K3]; rfl
  clear K3
  rcases H.out with ⟨rfl, rfl⟩ | ⟨rfl, hz⟩
  · go_wp2_with fail
    go_ret
    exact ⟨rfl, B.out⟩
  · have HZ := Lib.hid hz
    clear hz H
    by_cases h0 : op < 0
    · go_wp2_with fail
      go_loopw [10, 11] (fun c m wr => ∃ (j : Nat) (x : Int), c = .int .i64 (j : Int) ∧ m = .int .i64 x ∧ x ≤ 9223372036854775807 ∧ Hid (j + pc 64 x.toNat = pc 64 ri.toNat) ∧ wr = w3) (fun _ m _ => (intOf m).toNat)
      case atStart => exact ⟨0, ri, rfl, rfl, r1, Lib.hid (by omega), rfl⟩
      case round =>
        obtain ⟨j, x, rfl, rfl, hx, HJ, rfl⟩ := hrel
        have hj : j ≤ 64 := by have := HJ.out; have := pc_le 64 ri.toNat; omega
        by_cases hp : 0 < x
        · have F : Hid ((j + x.toNat % 2) + pc 64 (x / 2).toNat = pc 64 ri.toNat) := Lib.hid (by
            have := pc_half x.toNat (by omega)
            have e : (x / 2).toNat = x.toNat / 2 := by omega
            rw [e, ← HJ.out, this]; omega)
          have Q : Hid (x % 2 = ((x.toNat % 2 : Nat) : Int)) := Lib.hid (by omega)
          go_wp2_with fail
          go_roundw
          case rel => exact ⟨j + x.toNat % 2, x / 2, by rw [Q.out]; simp, rfl, by omega, F, by trivial⟩
          case measure => simp [intOf]; omega
        · have F : Hid (j = pc 64 ri.toNat) := Lib.hid (by
            have := HJ.out
            have e : x.toNat = 0 := by omega
            rw [e, pc_zero] at this; omega)
          clear HJ
          rcases plK_cases op with hk | hk | hk | hk | hk | hk | hk | hk | hk | hk | hk | hk | hk
          · have hr : -((op + 1).tmod 13) = 0 := plN_neg h0 _ hk
            have hz : (s.size : Int) = 6 + (1 + (nm.size : Int)) := by
              have := HZ.out
              rw [hk, ← F.out] at this
              exact this
            clear HZ hk F
            go_wp2_with fail
            go_ret
            exact ⟨rfl, B.out.alloc B.out.size _⟩
          · have hr : -((op + 1).tmod 13) = 1 := plN_neg h0 _ hk
            have hz : (s.size : Int) = 6 + (3 + (nm.size : Int)) := by
              have := HZ.out
              rw [hk, ← F.out] at this
              exact this
            clear HZ hk F
            go_wp2_with fail
            go_ret
            exact ⟨rfl, B.out.alloc B.out.size _⟩
          · have hr : -((op + 1).tmod 13) = 2 := plN_neg h0 _ hk
            have hz : (s.size : Int) = 6 + (12 + (j : Int)) := by
              have := HZ.out
              rw [hk, ← F.out] at this
              exact this
            clear HZ hk F
            go_wp2_with fail
            go_ret
            exact ⟨rfl, B.out.alloc B.out.size _⟩
          · have hr : -((op + 1).tmod 13) = 3 := plN_neg h0 _ hk
            have hz : (s.size : Int) = 6 + (39 + (nm.size : Int) + (j : Int)) := by
              have := HZ.out
              rw [hk, ← F.out] at this
              exact this
            clear HZ hk F
            go_wp2_with fail
            go_ret
            exact ⟨rfl, B.out.alloc B.out.size _⟩
          · have hr : -((op + 1).tmod 13) = 4 := plN_neg h0 _ hk
            have hz : (s.size : Int) = 6 + (33) := by
              have := HZ.out
              rw [hk, ← F.out] at this
              exact this
            clear HZ hk F
            go_wp2_with fail
            go_ret
            exact ⟨rfl, B.out.alloc B.out.size _⟩
          · have hr : -((op + 1).tmod 13) = 5 := plN_neg h0 _ hk
            have hz : (s.size : Int) = 6 + (29) := by
              have := HZ.out
              rw [hk, ← F.out] at this
              exact this
            clear HZ hk F
            go_wp2_with fail
            go_ret
            exact ⟨rfl, B.out.alloc B.out.size _⟩
          · have hr : -((op + 1).tmod 13) = 6 := plN_neg h0 _ hk
            have hz : (s.size : Int) = 6 + (31) := by
              have := HZ.out
              rw [hk, ← F.out] at this
              exact this
            clear HZ hk F
            go_wp2_with fail
            go_ret
            exact ⟨rfl, B.out.alloc B.out.size _⟩
          · have hr : -((op + 1).tmod 13) = 7 := plN_neg h0 _ hk
            have hz : (s.size : Int) = 6 + (30) := by
              have := HZ.out
              rw [hk, ← F.out] at this
              exact this
            clear HZ hk F
            go_wp2_with fail
            go_ret
            exact ⟨rfl, B.out.alloc B.out.size _⟩
          · have hr : -((op + 1).tmod 13) = 8 := plN_neg h0 _ hk
            have hz : (s.size : Int) = 6 + (29) := by
              have := HZ.out
              rw [hk, ← F.out] at this
              exact this
            clear HZ hk F
            go_wp2_with fail
            go_ret
            exact ⟨rfl, B.out.alloc B.out.size _⟩
          · have hr : -((op + 1).tmod 13) = 9 := plN_neg h0 _ hk
            have hz : (s.size : Int) = 6 + (58) := by
              have := HZ.out
              rw [hk, ← F.out] at this
              exact this
            clear HZ hk F
            go_wp2_with fail
            go_ret
            exact ⟨rfl, B.out.alloc B.out.size _⟩
          · have hr : -((op + 1).tmod 13) = 10 := plN_neg h0 _ hk
            have hz : (s.size : Int) = 6 + (33) := by
              have := HZ.out
              rw [hk, ← F.out] at this
              exact this
            clear HZ hk F
            go_wp2_with fail
            go_ret
            exact ⟨rfl, B.out.alloc B.out.size _⟩
          · have hr : -((op + 1).tmod 13) = 11 := plN_neg h0 _ hk
            have hz : (s.size : Int) = 6 + (0) := by
              have := HZ.out
              rw [hk, ← F.out] at this
              exact this
            clear HZ hk F
            go_wp2_with fail
            go_ret
            exact ⟨rfl, B.out.alloc B.out.size _⟩
          · have hr : -((op + 1).tmod 13) = 12 := plN_neg h0 _ hk
            have hz : (s.size : Int) = 6 + (0) := by
              have := HZ.out
              rw [hk, ← F.out] at this
              exact this
            clear HZ hk F
            go_wp2_with fail
            go_ret
            exact ⟨rfl, B.out.alloc B.out.size _⟩
    · have h0' : 0 ≤ op := by omega
      go_wp2_with fail
      go_loopw [10, 11] (fun c m wr => ∃ (j : Nat) (x : Int), c = .int .i64 (j : Int) ∧ m = .int .i64 x ∧ x ≤ 9223372036854775807 ∧ Hid (j + pc 64 x.toNat = pc 64 ri.toNat) ∧ wr = w3) (fun _ m _ => (intOf m).toNat)
      case atStart => exact ⟨0, ri, rfl, rfl, r1, Lib.hid (by omega), rfl⟩
      case round =>
        obtain ⟨j, x, rfl, rfl, hx, HJ, rfl⟩ := hrel
        have hj : j ≤ 64 := by have := HJ.out; have := pc_le 64 ri.toNat; omega
        by_cases hp : 0 < x
        · have F : Hid ((j + x.toNat % 2) + pc 64 (x / 2).toNat = pc 64 ri.toNat) := Lib.hid (by
            have := pc_half x.toNat (by omega)
            have e : (x / 2).toNat = x.toNat / 2 := by omega
            rw [e, ← HJ.out, this]; omega)
          have Q : Hid (x % 2 = ((x.toNat % 2 : Nat) : Int)) := Lib.hid (by omega)
          go_wp2_with fail
          go_roundw
          case rel => exact ⟨j + x.toNat % 2, x / 2, by rw [Q.out]; simp, rfl, by omega, F, by trivial⟩
          case measure => simp [intOf]; omega
        · have F : Hid (j = pc 64 ri.toNat) := Lib.hid (by
            have := HJ.out
            have e : x.toNat = 0 := by omega
            rw [e, pc_zero] at this; omega)
          clear HJ
          rcases plK_cases op with hk | hk | hk | hk | hk | hk | hk | hk | hk | hk | hk | hk | hk
          · have hr : op % 13 = 0 := plN_pos h0' _ hk
            have hz : (s.size : Int) = 6 + (1 + (nm.size : Int)) := by
              have := HZ.out
              rw [hk, ← F.out] at this
              exact this
            clear HZ hk F
            go_wp2_with fail
            go_ret
            exact ⟨rfl, B.out.alloc B.out.size _⟩
          · have hr : op % 13 = 1 := plN_pos h0' _ hk
            have hz : (s.size : Int) = 6 + (3 + (nm.size : Int)) := by
              have := HZ.out
              rw [hk, ← F.out] at this
              exact this
            clear HZ hk F
            go_wp2_with fail
            go_ret
            exact ⟨rfl, B.out.alloc B.out.size _⟩
          · have hr : op % 13 = 2 := plN_pos h0' _ hk
            have hz : (s.size : Int) = 6 + (12 + (j : Int)) := by
              have := HZ.out
              rw [hk, ← F.out] at this
              exact this
            clear HZ hk F
            go_wp2_with fail
            go_ret
            exact ⟨rfl, B.out.alloc B.out.size _⟩
          · have hr : op % 13 = 3 := plN_pos h0' _ hk
            have hz : (s.size : Int) = 6 + (39 + (nm.size : Int) + (j : Int)) := by
              have := HZ.out
              rw [hk, ← F.out] at this
              exact this
            clear HZ hk F
            go_wp2_with fail
            go_ret
            exact ⟨rfl, B.out.alloc B.out.size _⟩
          · have hr : op % 13 = 4 := plN_pos h0' _ hk
            have hz : (s.size : Int) = 6 + (33) := by
              have := HZ.out
              rw [hk, ← F.out] at this
              exact this
            clear HZ hk F
            go_wp2_with fail
            go_ret
            exact ⟨rfl, B.out.alloc B.out.size _⟩
          · have hr : op % 13 = 5 := plN_pos h0' _ hk
            have hz : (s.size : Int) = 6 + (29) := by
              have := HZ.out
              rw [hk, ← F.out] at this
              exact this
            clear HZ hk F
            go_wp2_with fail
            go_ret
            exact ⟨rfl, B.out.alloc B.out.size _⟩
          · have hr : op % 13 = 6 := plN_pos h0' _ hk
            have hz : (s.size : Int) = 6 + (31) := by
              have := HZ.out
              rw [hk, ← F.out] at this
              exact this
            clear HZ hk F
            go_wp2_with fail
            go_ret
            exact ⟨rfl, B.out.alloc B.out.size _⟩
          · have hr : op % 13 = 7 := plN_pos h0' _ hk
            have hz : (s.size : Int) = 6 + (30) := by
              have := HZ.out
              rw [hk, ← F.out] at this
              exact this
            clear HZ hk F
            go_wp2_with fail
            go_ret
            exact ⟨rfl, B.out.alloc B.out.size _⟩
          · have hr : op % 13 = 8 := plN_pos h0' _ hk
            have hz : (s.size : Int) = 6 + (29) := by
              have := HZ.out
              rw [hk, ← F.out] at this
              exact this
            clear HZ hk F
            go_wp2_with fail
            go_ret
            exact ⟨rfl, B.out.alloc B.out.size _⟩
          · have hr : op % 13 = 9 := plN_pos h0' _ hk
            have hz : (s.size : Int) = 6 + (58) := by
              have := HZ.out
              rw [hk, ← F.out] at this
              exact this
            clear HZ hk F
            go_wp2_with fail
            go_ret
            exact ⟨rfl, B.out.alloc B.out.size _⟩
          · have hr : op % 13 = 10 := plN_pos h0' _ hk
            have hz : (s.size : Int) = 6 + (33) := by
              have := HZ.out
              rw [hk, ← F.out] at this
              exact this
            clear HZ hk F
            go_wp2_with fail
            go_ret
            exact ⟨rfl, B.out.alloc B.out.size _⟩
          · have hr : op % 13 = 11 := plN_pos h0' _ hk
            have hz : (s.size : Int) = 6 + (0) := by
              have := HZ.out
              rw [hk, ← F.out] at this
              exact this
            clear HZ hk F
            go_wp2_with fail
            go_ret
            exact ⟨rfl, B.out.alloc B.out.size _⟩
          · have hr : op % 13 = 12 := plN_pos h0' _ hk
            have hz : (s.size : Int) = 6 + (0) := by
              have := HZ.out
              rw [hk, ← F.out] at this
              exact this
            clear HZ hk F
            go_wp2_with fail
            go_ret
            exact ⟨rfl, B.out.alloc B.out.size _⟩
theorem enc_want (a : Bool) (op id : Int) (f : ByteArray) (q : Int) (ho : 0 ≤ op ∧ op ≤ 255) (hz : a = true → (f.size : Int) = q) :
    (encE (a && askOk id) = 1 ∧ encS (a && askOk id) op id f = ⟨#[]⟩) ∨ (encE (a && askOk id) = 0 ∧ ((encS (a && askOk id) op id f).size : Int) = 6 + q) := by
  cases h : (a && askOk id)
  · exact .inl ⟨rfl, rfl⟩
  · rw [Bool.and_eq_true] at h
    refine .inr ⟨rfl, ?_⟩
    rw [encS_size op id f a ho h.2, ← hz h.1]
    omega
theorem protoSizes_law (id : Int) (op : Int) (nm : ByteArray) (hd : ByteArray) (to : ByteArray) (li : Int) (ob : Int) (ri : Int) (ba : Int) (ex : Int) (le : Int) (sf : Bool) (fr : Int) (mo : Int) (w : World) (v_id : (Lit.int .i64 id).wf = true) (v_op : (Lit.int .i64 op).wf = true) (z_nm : nm.size ≤ 140737488351232) (z_hd : hd.size ≤ 140737488351232) (z_to : to.size ≤ 140737488351232) (v_li : (Lit.int .i64 li).wf = true) (v_ob : (Lit.int .i64 ob).wf = true) (v_ri : (Lit.int .i64 ri).wf = true) (v_ba : (Lit.int .i64 ba).wf = true) (v_ex : (Lit.int .i64 ex).wf = true) (v_le : (Lit.int .i32 le).wf = true) (v_fr : (Lit.int .i64 fr).wf = true) (v_mo : (Lit.int .i64 mo).wf = true) :
    Calls Try.prog 7 #[.int .i64 id, .agg #[.int .i64 op, .string nm, .string hd, .string to, .int .i64 li, .int .i64 ob, .int .i64 ri, .int .i64 ba, .int .i64 ex, .int .i32 le, .bool sf, .int .i64 fr, .int .i64 mo]] w fun e w' => e = .returned (.bool true) ∧ Below w.heap.size w w' := by
  rcases plK_cases op with hk | hk | hk | hk | hk | hk | hk | hk | hk | hk | hk | hk | hk
  · refine protoSizes_walk id op nm hd to li ob ri ba ex le sf fr mo _ _ _ w v_op v_ri z_nm (Lib.hid fun w => made_Hello op nm hd to li ob ri ba ex le sf fr mo w v_op hk) (Lib.hid fun w => enc_Hello nm id w z_nm) (Lib.hid ?_)
    refine enc_want _ 1 id _ _ (by decide) fun h => ?_
    have hz := wr_Hello_size nm h
    rw [hk]
    show ((wr_Hello nm).size : Int) = 1 + (nm.size : Int)
    omega
  · refine protoSizes_walk id op nm hd to li ob ri ba ex le sf fr mo _ _ _ w v_op v_ri z_nm (Lib.hid fun w => made_Register op nm hd to li ob ri ba ex le sf fr mo w v_op hk) (Lib.hid fun w => enc_Register nm li id w z_nm) (Lib.hid ?_)
    refine enc_want _ 2 id _ _ (by decide) fun h => ?_
    have hz := wr_Register_size nm li h
    rw [hk]
    show ((wr_Register nm li).size : Int) = 3 + (nm.size : Int)
    omega
  · refine protoSizes_walk id op nm hd to li ob ri ba ex le sf fr mo _ _ _ w v_op v_ri z_nm (Lib.hid fun w => made_Mint op nm hd to li ob ri ba ex le sf fr mo w v_op hk) (Lib.hid fun w => enc_Mint ob ri ba ex id w) (Lib.hid ?_)
    refine enc_want _ 3 id _ _ (by decide) fun h => ?_
    have hz := wr_Mint_size ob ri ba ex h
    rw [hk]
    show ((wr_Mint ob ri ba ex).size : Int) = 12 + ((pc 64 ri.toNat : Nat) : Int)
    unfold mintR at h
    rw [Bool.and_eq_true] at h
    have hm := mayB_in h.2
    have hp := pc_small ri.toNat (by omega) 48
    rw [hz, show pc 64 ri.toNat = pc 16 ri.toNat from hp]
    omega
  · refine protoSizes_walk id op nm hd to li ob ri ba ex le sf fr mo _ _ _ w v_op v_ri z_nm (Lib.hid fun w => made_Derive op nm hd to li ob ri ba ex le sf fr mo w v_op hk) (Lib.hid fun w => enc_Derive hd nm ri ba ex id w z_nm) (Lib.hid ?_)
    refine enc_want _ 4 id _ _ (by decide) fun h => ?_
    have hz := wr_Derive_size hd nm ri ba ex h
    rw [hk]
    show ((wr_Derive hd nm ri ba ex).size : Int) = 39 + (nm.size : Int) + ((pc 64 ri.toNat : Nat) : Int)
    unfold deriveR at h
    rw [Bool.and_eq_true] at h
    have hm := mayB_in h.2
    have hp := pc_small ri.toNat (by omega) 48
    rw [hz, show pc 64 ri.toNat = pc 16 ri.toNat from hp]
    omega
  · refine protoSizes_walk id op nm hd to li ob ri ba ex le sf fr mo _ _ _ w v_op v_ri z_nm (Lib.hid fun w => made_Renew op nm hd to li ob ri ba ex le sf fr mo w v_op hk) (Lib.hid fun w => enc_Renew hd ex id w) (Lib.hid ?_)
    refine enc_want _ 5 id _ _ (by decide) fun h => ?_
    have hz := wr_Renew_size hd ex h
    rw [hk]
    show ((wr_Renew hd ex).size : Int) = 33
    omega
  · refine protoSizes_walk id op nm hd to li ob ri ba ex le sf fr mo _ _ _ w v_op v_ri z_nm (Lib.hid fun w => made_Validate op nm hd to li ob ri ba ex le sf fr mo w v_op hk) (Lib.hid fun w => enc_Validate hd id w) (Lib.hid ?_)
    refine enc_want _ 6 id _ _ (by decide) fun h => ?_
    have hz := wr_Validate_size hd h
    rw [hk]
    show ((wr_Validate hd).size : Int) = 29
    omega
  · refine protoSizes_walk id op nm hd to li ob ri ba ex le sf fr mo _ _ _ w v_op v_ri z_nm (Lib.hid fun w => made_Invoke op nm hd to li ob ri ba ex le sf fr mo w v_op hk) (Lib.hid fun w => enc_Invoke hd le id w) (Lib.hid ?_)
    refine enc_want _ 7 id _ _ (by decide) fun h => ?_
    have hz := wr_Invoke_size hd le h
    rw [hk]
    show ((wr_Invoke hd le).size : Int) = 31
    omega
  · refine protoSizes_walk id op nm hd to li ob ri ba ex le sf fr mo _ _ _ w v_op v_ri z_nm (Lib.hid fun w => made_Revoke op nm hd to li ob ri ba ex le sf fr mo w v_op hk) (Lib.hid fun w => enc_Revoke hd sf id w) (Lib.hid ?_)
    refine enc_want _ 8 id _ _ (by decide) fun h => ?_
    have hz := wr_Revoke_size hd sf h
    rw [hk]
    show ((wr_Revoke hd sf).size : Int) = 30
    omega
  · refine protoSizes_walk id op nm hd to li ob ri ba ex le sf fr mo _ _ _ w v_op v_ri z_nm (Lib.hid fun w => made_Delete op nm hd to li ob ri ba ex le sf fr mo w v_op hk) (Lib.hid fun w => enc_Delete hd id w) (Lib.hid ?_)
    refine enc_want _ 9 id _ _ (by decide) fun h => ?_
    have hz := wr_Delete_size hd h
    rw [hk]
    show ((wr_Delete hd).size : Int) = 29
    omega
  · refine protoSizes_walk id op nm hd to li ob ri ba ex le sf fr mo _ _ _ w v_op v_ri z_nm (Lib.hid fun w => made_Move op nm hd to li ob ri ba ex le sf fr mo w v_op hk) (Lib.hid fun w => enc_Move hd to id w) (Lib.hid ?_)
    refine enc_want _ 10 id _ _ (by decide) fun h => ?_
    have hz := wr_Move_size hd to h
    rw [hk]
    show ((wr_Move hd to).size : Int) = 58
    omega
  · refine protoSizes_walk id op nm hd to li ob ri ba ex le sf fr mo _ _ _ w v_op v_ri z_nm (Lib.hid fun w => made_List op nm hd to li ob ri ba ex le sf fr mo w v_op hk) (Lib.hid fun w => enc_List hd fr mo id w) (Lib.hid ?_)
    refine enc_want _ 11 id _ _ (by decide) fun h => ?_
    have hz := wr_List_size hd fr mo h
    rw [hk]
    show ((wr_List hd fr mo).size : Int) = 33
    omega
  · refine protoSizes_walk id op nm hd to li ob ri ba ex le sf fr mo _ _ _ w v_op v_ri z_nm (Lib.hid fun w => made_Quota op nm hd to li ob ri ba ex le sf fr mo w v_op hk) (Lib.hid fun w => enc_Quota  id w) (Lib.hid ?_)
    refine enc_want _ 12 id _ _ (by decide) fun h => ?_
    have hz := wr_Quota_size  h
    rw [hk]
    show ((wr_Quota ).size : Int) = 0
    omega
  · refine protoSizes_walk id op nm hd to li ob ri ba ex le sf fr mo _ _ _ w v_op v_ri z_nm (Lib.hid fun w => made_Rotate op nm hd to li ob ri ba ex le sf fr mo w v_op hk) (Lib.hid fun w => enc_Rotate  id w) (Lib.hid ?_)
    refine enc_want _ 13 id _ _ (by decide) fun h => ?_
    have hz := wr_Rotate_size  h
    rw [hk]
    show ((wr_Rotate ).size : Int) = 0
    omega
end Go.Proofs.Ytemhlhcaahaecaa
