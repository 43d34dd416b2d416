/-
  Package bailiwicklaw21: which request is made.
-/
import Derived.Test.YtemhlhcaahaecaaSup
namespace Go.Proofs.Ytemhlhcaahaecaa
open Go.RowKit
set_option linter.unusedVariables false
set_option linter.unusedSimpArgs false
/-- The place of a request, round about. -/
def plN (op : Int) : Int := if op < 0 then -(op + 1) else op
def plK (op : Int) : Nat := (plN op % 13).toNat
theorem plN_neg {op : Int} (h : op < 0) (k : Nat) (hk : plK op = k) : -((op + 1).tmod 13) = (k : Int) := by
  subst hk; unfold plK plN; rw [if_pos h]
  have e : (op + 1).tmod 13 = -((-(op + 1)).tmod 13) := by rw [Int.neg_tmod, Int.neg_neg]
  rw [e, Int.tmod_eq_emod_of_nonneg (by omega)]; omega
theorem plN_pos {op : Int} (h : 0 ≤ op) (k : Nat) (hk : plK op = k) : op % 13 = (k : Int) := by
  subst hk; unfold plK plN; rw [if_neg (by omega)]; omega
theorem plK_lt (op : Int) : plK op < 13 := by unfold plK; omega
theorem plK_cases (op : Int) : plK op = 0 ∨ plK op = 1 ∨ plK op = 2 ∨ plK op = 3 ∨ plK op = 4 ∨ plK op = 5 ∨ plK op = 6 ∨ plK op = 7 ∨ plK op = 8 ∨ plK op = 9 ∨ plK op = 10 ∨ plK op = 11 ∨ plK op = 12 := by have := plK_lt op; omega
set_option maxHeartbeats 1600000 in
set_option maxRecDepth 20000 in
theorem made_Hello (op : Int) (nm : ByteArray) (hd : ByteArray) (to : ByteArray) (li : Int) (ob : Int) (ri : Int) (ba : Int) (ex : Int) (le : Int) (sf : Bool) (fr : Int) (mo : Int) (w : World) (w0 : (Lit.int .i64 op).wf = true) (hk : plK op = 0) :
    Calls Try.prog 14 #[.agg #[.int .i64 op, .string nm, .string hd, .string to, .int .i64 li, .int .i64 ob, .int .i64 ri, .int .i64 ba, .int .i64 ex, .int .i32 le, .bool sf, .int .i64 fr, .int .i64 mo]] w fun e w' => e = .returned (.iface 64 (.agg #[.string nm])) ∧ Below w.heap.size w w' := by
  have hw := w0
  simp only [Lit.wf, Bool.and_eq_true, decide_eq_true_eq] at hw
  have hmin : IntKind.i64.min = -9223372036854775808 := rfl
  rw [hmin] at hw
  have h1 := hw.1
  clear hw hmin w0
  by_cases h0 : op < 0
  · have hr : -((op + 1).tmod 13) = 0 := plN_neg h0 _ hk
    clear hk
    go_enter Try.func14, Try.ntmps14
    go_wp2_with fail
    go_ret
    exact ⟨rfl, (Below.refl _ _).alloc (Nat.le_refl _) _⟩
  · have h0' : 0 ≤ op := by omega
    have hr : op % 13 = 0 := plN_pos h0' _ hk
    clear hk
    go_enter Try.func14, Try.ntmps14
    go_wp2_with fail
    go_ret
    exact ⟨rfl, (Below.refl _ _).alloc (Nat.le_refl _) _⟩
set_option maxHeartbeats 1600000 in
set_option maxRecDepth 20000 in
theorem made_Register (op : Int) (nm : ByteArray) (hd : ByteArray) (to : ByteArray) (li : Int) (ob : Int) (ri : Int) (ba : Int) (ex : Int) (le : Int) (sf : Bool) (fr : Int) (mo : Int) (w : World) (w0 : (Lit.int .i64 op).wf = true) (hk : plK op = 1) :
    Calls Try.prog 14 #[.agg #[.int .i64 op, .string nm, .string hd, .string to, .int .i64 li, .int .i64 ob, .int .i64 ri, .int .i64 ba, .int .i64 ex, .int .i32 le, .bool sf, .int .i64 fr, .int .i64 mo]] w fun e w' => e = .returned (.iface 51 (.agg #[.string nm, .int .i64 li])) ∧ Below w.heap.size w w' := by
  have hw := w0
  simp only [Lit.wf, Bool.and_eq_true, decide_eq_true_eq] at hw
  have hmin : IntKind.i64.min = -9223372036854775808 := rfl
  rw [hmin] at hw
  have h1 := hw.1
  clear hw hmin w0
  by_cases h0 : op < 0
  · have hr : -((op + 1).tmod 13) = 1 := plN_neg h0 _ hk
    clear hk
    go_enter Try.func14, Try.ntmps14
    go_wp2_with fail
    go_ret
    exact ⟨rfl, (Below.refl _ _).alloc (Nat.le_refl _) _⟩
  · have h0' : 0 ≤ op := by omega
    have hr : op % 13 = 1 := plN_pos h0' _ hk
    clear hk
    go_enter Try.func14, Try.ntmps14
    go_wp2_with fail
    go_ret
    exact ⟨rfl, (Below.refl _ _).alloc (Nat.le_refl _) _⟩
set_option maxHeartbeats 1600000 in
set_option maxRecDepth 20000 in
theorem made_Mint (op : Int) (nm : ByteArray) (hd : ByteArray) (to : ByteArray) (li : Int) (ob : Int) (ri : Int) (ba : Int) (ex : Int) (le : Int) (sf : Bool) (fr : Int) (mo : Int) (w : World) (w0 : (Lit.int .i64 op).wf = true) (hk : plK op = 2) :
    Calls Try.prog 14 #[.agg #[.int .i64 op, .string nm, .string hd, .string to, .int .i64 li, .int .i64 ob, .int .i64 ri, .int .i64 ba, .int .i64 ex, .int .i32 le, .bool sf, .int .i64 fr, .int .i64 mo]] w fun e w' => e = .returned (.iface 53 (.agg #[.int .i64 ob, .int .i64 ri, .int .i64 ba, .int .i64 ex])) ∧ Below w.heap.size w w' := by
  have hw := w0
  simp only [Lit.wf, Bool.and_eq_true, decide_eq_true_eq] at hw
  have hmin : IntKind.i64.min = -9223372036854775808 := rfl
  rw [hmin] at hw
  have h1 := hw.1
  clear hw hmin w0
  by_cases h0 : op < 0
  · have hr : -((op + 1).tmod 13) = 2 := plN_neg h0 _ hk
    clear hk
    go_enter Try.func14, Try.ntmps14
    go_wp2_with fail
    go_ret
    exact ⟨rfl, (Below.refl _ _).alloc (Nat.le_refl _) _⟩
  · have h0' : 0 ≤ op := by omega
    have hr : op % 13 = 2 := plN_pos h0' _ hk
    clear hk
    go_enter Try.func14, Try.ntmps14
    go_wp2_with fail
    go_ret
    exact ⟨rfl, (Below.refl _ _).alloc (Nat.le_refl _) _⟩
set_option maxHeartbeats 1600000 in
set_option maxRecDepth 20000 in
theorem made_Derive (op : Int) (nm : ByteArray) (hd : ByteArray) (to : ByteArray) (li : Int) (ob : Int) (ri : Int) (ba : Int) (ex : Int) (le : Int) (sf : Bool) (fr : Int) (mo : Int) (w : World) (w0 : (Lit.int .i64 op).wf = true) (hk : plK op = 3) :
    Calls Try.prog 14 #[.agg #[.int .i64 op, .string nm, .string hd, .string to, .int .i64 li, .int .i64 ob, .int .i64 ri, .int .i64 ba, .int .i64 ex, .int .i32 le, .bool sf, .int .i64 fr, .int .i64 mo]] w fun e w' => e = .returned (.iface 83 (.agg #[.string hd, .string nm, .int .i64 ri, .int .i64 ba, .int .i64 ex])) ∧ Below w.heap.size w w' := by
  have hw := w0
  simp only [Lit.wf, Bool.and_eq_true, decide_eq_true_eq] at hw
  have hmin : IntKind.i64.min = -9223372036854775808 := rfl
  rw [hmin] at hw
  have h1 := hw.1
  clear hw hmin w0
  by_cases h0 : op < 0
  · have hr : -((op + 1).tmod 13) = 3 := plN_neg h0 _ hk
    clear hk
    go_enter Try.func14, Try.ntmps14
    go_wp2_with fail
    go_ret
    exact ⟨rfl, (Below.refl _ _).alloc (Nat.le_refl _) _⟩
  · have h0' : 0 ≤ op := by omega
    have hr : op % 13 = 3 := plN_pos h0' _ hk
    clear hk
    go_enter Try.func14, Try.ntmps14
    go_wp2_with fail
    go_ret
    exact ⟨rfl, (Below.refl _ _).alloc (Nat.le_refl _) _⟩
set_option maxHeartbeats 1600000 in
set_option maxRecDepth 20000 in
theorem made_Renew (op : Int) (nm : ByteArray) (hd : ByteArray) (to : ByteArray) (li : Int) (ob : Int) (ri : Int) (ba : Int) (ex : Int) (le : Int) (sf : Bool) (fr : Int) (mo : Int) (w : World) (w0 : (Lit.int .i64 op).wf = true) (hk : plK op = 4) :
    Calls Try.prog 14 #[.agg #[.int .i64 op, .string nm, .string hd, .string to, .int .i64 li, .int .i64 ob, .int .i64 ri, .int .i64 ba, .int .i64 ex, .int .i32 le, .bool sf, .int .i64 fr, .int .i64 mo]] w fun e w' => e = .returned (.iface 62 (.agg #[.string hd, .int .i64 ex])) ∧ Below w.heap.size w w' := by
  have hw := w0
  simp only [Lit.wf, Bool.and_eq_true, decide_eq_true_eq] at hw
  have hmin : IntKind.i64.min = -9223372036854775808 := rfl
  rw [hmin] at hw
  have h1 := hw.1
  clear hw hmin w0
  by_cases h0 : op < 0
  · have hr : -((op + 1).tmod 13) = 4 := plN_neg h0 _ hk
    clear hk
    go_enter Try.func14, Try.ntmps14
    go_wp2_with fail
    go_ret
    exact ⟨rfl, (Below.refl _ _).alloc (Nat.le_refl _) _⟩
  · have h0' : 0 ≤ op := by omega
    have hr : op % 13 = 4 := plN_pos h0' _ hk
    clear hk
    go_enter Try.func14, Try.ntmps14
    go_wp2_with fail
    go_ret
    exact ⟨rfl, (Below.refl _ _).alloc (Nat.le_refl _) _⟩
set_option maxHeartbeats 1600000 in
set_option maxRecDepth 20000 in
theorem made_Validate (op : Int) (nm : ByteArray) (hd : ByteArray) (to : ByteArray) (li : Int) (ob : Int) (ri : Int) (ba : Int) (ex : Int) (le : Int) (sf : Bool) (fr : Int) (mo : Int) (w : World) (w0 : (Lit.int .i64 op).wf = true) (hk : plK op = 5) :
    Calls Try.prog 14 #[.agg #[.int .i64 op, .string nm, .string hd, .string to, .int .i64 li, .int .i64 ob, .int .i64 ri, .int .i64 ba, .int .i64 ex, .int .i32 le, .bool sf, .int .i64 fr, .int .i64 mo]] w fun e w' => e = .returned (.iface 55 (.agg #[.string hd])) ∧ Below w.heap.size w w' := by
  have hw := w0
  simp only [Lit.wf, Bool.and_eq_true, decide_eq_true_eq] at hw
  have hmin : IntKind.i64.min = -9223372036854775808 := rfl
  rw [hmin] at hw
  have h1 := hw.1
  clear hw hmin w0
  by_cases h0 : op < 0
  · have hr : -((op + 1).tmod 13) = 5 := plN_neg h0 _ hk
    clear hk
    go_enter Try.func14, Try.ntmps14
    go_wp2_with fail
    go_ret
    exact ⟨rfl, (Below.refl _ _).alloc (Nat.le_refl _) _⟩
  · have h0' : 0 ≤ op := by omega
    have hr : op % 13 = 5 := plN_pos h0' _ hk
    clear hk
    go_enter Try.func14, Try.ntmps14
    go_wp2_with fail
    go_ret
    exact ⟨rfl, (Below.refl _ _).alloc (Nat.le_refl _) _⟩
set_option maxHeartbeats 1600000 in
set_option maxRecDepth 20000 in
theorem made_Invoke (op : Int) (nm : ByteArray) (hd : ByteArray) (to : ByteArray) (li : Int) (ob : Int) (ri : Int) (ba : Int) (ex : Int) (le : Int) (sf : Bool) (fr : Int) (mo : Int) (w : World) (w0 : (Lit.int .i64 op).wf = true) (hk : plK op = 6) :
    Calls Try.prog 14 #[.agg #[.int .i64 op, .string nm, .string hd, .string to, .int .i64 li, .int .i64 ob, .int .i64 ri, .int .i64 ba, .int .i64 ex, .int .i32 le, .bool sf, .int .i64 fr, .int .i64 mo]] w fun e w' => e = .returned (.iface 58 (.agg #[.string hd, .int .i32 le])) ∧ Below w.heap.size w w' := by
  have hw := w0
  simp only [Lit.wf, Bool.and_eq_true, decide_eq_true_eq] at hw
  have hmin : IntKind.i64.min = -9223372036854775808 := rfl
  rw [hmin] at hw
  have h1 := hw.1
  clear hw hmin w0
  by_cases h0 : op < 0
  · have hr : -((op + 1).tmod 13) = 6 := plN_neg h0 _ hk
    clear hk
    go_enter Try.func14, Try.ntmps14
    go_wp2_with fail
    go_ret
    exact ⟨rfl, (Below.refl _ _).alloc (Nat.le_refl _) _⟩
  · have h0' : 0 ≤ op := by omega
    have hr : op % 13 = 6 := plN_pos h0' _ hk
    clear hk
    go_enter Try.func14, Try.ntmps14
    go_wp2_with fail
    go_ret
    exact ⟨rfl, (Below.refl _ _).alloc (Nat.le_refl _) _⟩
set_option maxHeartbeats 1600000 in
set_option maxRecDepth 20000 in
theorem made_Revoke (op : Int) (nm : ByteArray) (hd : ByteArray) (to : ByteArray) (li : Int) (ob : Int) (ri : Int) (ba : Int) (ex : Int) (le : Int) (sf : Bool) (fr : Int) (mo : Int) (w : World) (w0 : (Lit.int .i64 op).wf = true) (hk : plK op = 7) :
    Calls Try.prog 14 #[.agg #[.int .i64 op, .string nm, .string hd, .string to, .int .i64 li, .int .i64 ob, .int .i64 ri, .int .i64 ba, .int .i64 ex, .int .i32 le, .bool sf, .int .i64 fr, .int .i64 mo]] w fun e w' => e = .returned (.iface 85 (.agg #[.string hd, .bool sf])) ∧ Below w.heap.size w w' := by
  have hw := w0
  simp only [Lit.wf, Bool.and_eq_true, decide_eq_true_eq] at hw
  have hmin : IntKind.i64.min = -9223372036854775808 := rfl
  rw [hmin] at hw
  have h1 := hw.1
  clear hw hmin w0
  by_cases h0 : op < 0
  · have hr : -((op + 1).tmod 13) = 7 := plN_neg h0 _ hk
    clear hk
    go_enter Try.func14, Try.ntmps14
    go_wp2_with fail
    go_ret
    exact ⟨rfl, (Below.refl _ _).alloc (Nat.le_refl _) _⟩
  · have h0' : 0 ≤ op := by omega
    have hr : op % 13 = 7 := plN_pos h0' _ hk
    clear hk
    go_enter Try.func14, Try.ntmps14
    go_wp2_with fail
    go_ret
    exact ⟨rfl, (Below.refl _ _).alloc (Nat.le_refl _) _⟩
set_option maxHeartbeats 1600000 in
set_option maxRecDepth 20000 in
theorem made_Delete (op : Int) (nm : ByteArray) (hd : ByteArray) (to : ByteArray) (li : Int) (ob : Int) (ri : Int) (ba : Int) (ex : Int) (le : Int) (sf : Bool) (fr : Int) (mo : Int) (w : World) (w0 : (Lit.int .i64 op).wf = true) (hk : plK op = 8) :
    Calls Try.prog 14 #[.agg #[.int .i64 op, .string nm, .string hd, .string to, .int .i64 li, .int .i64 ob, .int .i64 ri, .int .i64 ba, .int .i64 ex, .int .i32 le, .bool sf, .int .i64 fr, .int .i64 mo]] w fun e w' => e = .returned (.iface 86 (.agg #[.string hd])) ∧ Below w.heap.size w w' := by
  have hw := w0
  simp only [Lit.wf, Bool.and_eq_true, decide_eq_true_eq] at hw
  have hmin : IntKind.i64.min = -9223372036854775808 := rfl
  rw [hmin] at hw
  have h1 := hw.1
  clear hw hmin w0
  by_cases h0 : op < 0
  · have hr : -((op + 1).tmod 13) = 8 := plN_neg h0 _ hk
    clear hk
    go_enter Try.func14, Try.ntmps14
    go_wp2_with fail
    go_ret
    exact ⟨rfl, (Below.refl _ _).alloc (Nat.le_refl _) _⟩
  · have h0' : 0 ≤ op := by omega
    have hr : op % 13 = 8 := plN_pos h0' _ hk
    clear hk
    go_enter Try.func14, Try.ntmps14
    go_wp2_with fail
    go_ret
    exact ⟨rfl, (Below.refl _ _).alloc (Nat.le_refl _) _⟩
set_option maxHeartbeats 1600000 in
set_option maxRecDepth 20000 in
theorem made_Move (op : Int) (nm : ByteArray) (hd : ByteArray) (to : ByteArray) (li : Int) (ob : Int) (ri : Int) (ba : Int) (ex : Int) (le : Int) (sf : Bool) (fr : Int) (mo : Int) (w : World) (w0 : (Lit.int .i64 op).wf = true) (hk : plK op = 9) :
    Calls Try.prog 14 #[.agg #[.int .i64 op, .string nm, .string hd, .string to, .int .i64 li, .int .i64 ob, .int .i64 ri, .int .i64 ba, .int .i64 ex, .int .i32 le, .bool sf, .int .i64 fr, .int .i64 mo]] w fun e w' => e = .returned (.iface 88 (.agg #[.string hd, .string to])) ∧ Below w.heap.size w w' := by
  have hw := w0
  simp only [Lit.wf, Bool.and_eq_true, decide_eq_true_eq] at hw
  have hmin : IntKind.i64.min = -9223372036854775808 := rfl
  rw [hmin] at hw
  have h1 := hw.1
  clear hw hmin w0
  by_cases h0 : op < 0
  · have hr : -((op + 1).tmod 13) = 9 := plN_neg h0 _ hk
    clear hk
    go_enter Try.func14, Try.ntmps14
    go_wp2_with fail
    go_ret
    exact ⟨rfl, (Below.refl _ _).alloc (Nat.le_refl _) _⟩
  · have h0' : 0 ≤ op := by omega
    have hr : op % 13 = 9 := plN_pos h0' _ hk
    clear hk
    go_enter Try.func14, Try.ntmps14
    go_wp2_with fail
    go_ret
    exact ⟨rfl, (Below.refl _ _).alloc (Nat.le_refl _) _⟩
set_option maxHeartbeats 1600000 in
set_option maxRecDepth 20000 in
theorem made_List (op : Int) (nm : ByteArray) (hd : ByteArray) (to : ByteArray) (li : Int) (ob : Int) (ri : Int) (ba : Int) (ex : Int) (le : Int) (sf : Bool) (fr : Int) (mo : Int) (w : World) (w0 : (Lit.int .i64 op).wf = true) (hk : plK op = 10) :
    Calls Try.prog 14 #[.agg #[.int .i64 op, .string nm, .string hd, .string to, .int .i64 li, .int .i64 ob, .int .i64 ri, .int .i64 ba, .int .i64 ex, .int .i32 le, .bool sf, .int .i64 fr, .int .i64 mo]] w fun e w' => e = .returned (.iface 60 (.agg #[.string hd, .int .i64 fr, .int .i64 mo])) ∧ Below w.heap.size w w' := by
  have hw := w0
  simp only [Lit.wf, Bool.and_eq_true, decide_eq_true_eq] at hw
  have hmin : IntKind.i64.min = -9223372036854775808 := rfl
  rw [hmin] at hw
  have h1 := hw.1
  clear hw hmin w0
  by_cases h0 : op < 0
  · have hr : -((op + 1).tmod 13) = 10 := plN_neg h0 _ hk
    clear hk
    go_enter Try.func14, Try.ntmps14
    go_wp2_with fail
    go_ret
    exact ⟨rfl, (Below.refl _ _).alloc (Nat.le_refl _) _⟩
  · have h0' : 0 ≤ op := by omega
    have hr : op % 13 = 10 := plN_pos h0' _ hk
    clear hk
    go_enter Try.func14, Try.ntmps14
    go_wp2_with fail
    go_ret
    exact ⟨rfl, (Below.refl _ _).alloc (Nat.le_refl _) _⟩
set_option maxHeartbeats 1600000 in
set_option maxRecDepth 20000 in
theorem made_Quota (op : Int) (nm : ByteArray) (hd : ByteArray) (to : ByteArray) (li : Int) (ob : Int) (ri : Int) (ba : Int) (ex : Int) (le : Int) (sf : Bool) (fr : Int) (mo : Int) (w : World) (w0 : (Lit.int .i64 op).wf = true) (hk : plK op = 11) :
    Calls Try.prog 14 #[.agg #[.int .i64 op, .string nm, .string hd, .string to, .int .i64 li, .int .i64 ob, .int .i64 ri, .int .i64 ba, .int .i64 ex, .int .i32 le, .bool sf, .int .i64 fr, .int .i64 mo]] w fun e w' => e = .returned (.iface 68 (.agg #[])) ∧ Below w.heap.size w w' := by
  have hw := w0
  simp only [Lit.wf, Bool.and_eq_true, decide_eq_true_eq] at hw
  have hmin : IntKind.i64.min = -9223372036854775808 := rfl
  rw [hmin] at hw
  have h1 := hw.1
  clear hw hmin w0
  by_cases h0 : op < 0
  · have hr : -((op + 1).tmod 13) = 11 := plN_neg h0 _ hk
    clear hk
    go_enter Try.func14, Try.ntmps14
    go_wp2_with fail
    go_ret
    exact ⟨rfl, (Below.refl _ _).alloc (Nat.le_refl _) _⟩
  · have h0' : 0 ≤ op := by omega
    have hr : op % 13 = 11 := plN_pos h0' _ hk
    clear hk
    go_enter Try.func14, Try.ntmps14
    go_wp2_with fail
    go_ret
    exact ⟨rfl, (Below.refl _ _).alloc (Nat.le_refl _) _⟩
set_option maxHeartbeats 1600000 in
set_option maxRecDepth 20000 in
theorem made_Rotate (op : Int) (nm : ByteArray) (hd : ByteArray) (to : ByteArray) (li : Int) (ob : Int) (ri : Int) (ba : Int) (ex : Int) (le : Int) (sf : Bool) (fr : Int) (mo : Int) (w : World) (w0 : (Lit.int .i64 op).wf = true) (hk : plK op = 12) :
    Calls Try.prog 14 #[.agg #[.int .i64 op, .string nm, .string hd, .string to, .int .i64 li, .int .i64 ob, .int .i64 ri, .int .i64 ba, .int .i64 ex, .int .i32 le, .bool sf, .int .i64 fr, .int .i64 mo]] w fun e w' => e = .returned (.iface 89 (.agg #[])) ∧ Below w.heap.size w w' := by
  have hw := w0
  simp only [Lit.wf, Bool.and_eq_true, decide_eq_true_eq] at hw
  have hmin : IntKind.i64.min = -9223372036854775808 := rfl
  rw [hmin] at hw
  have h1 := hw.1
  clear hw hmin w0
  by_cases h0 : op < 0
  · have hr : -((op + 1).tmod 13) = 12 := plN_neg h0 _ hk
    clear hk
    go_enter Try.func14, Try.ntmps14
    go_wp2_with fail
    go_ret
    exact ⟨rfl, (Below.refl _ _).alloc (Nat.le_refl _) _⟩
  · have h0' : 0 ≤ op := by omega
    have hr : op % 13 = 12 := plN_pos h0' _ hk
    clear hk
    go_enter Try.func14, Try.ntmps14
    go_wp2_with fail
    go_ret
    exact ⟨rfl, (Below.refl _ _).alloc (Nat.le_refl _) _⟩
end Go.Proofs.Ytemhlhcaahaecaa
