/-
  Package proto: which requests are right.
-/
import Derived.Test.YtemhlhcaahaecaaProtoKnown
import Derived.Test.YtemhlhcaahaecaaRight
import Derived.Test.YtemhlhcaahaecaaMaskP
namespace Go.Proofs.Ytemhlhcaahaecaa
open Go.RowKit
set_option linter.unusedVariables false
set_option linter.unusedSimpArgs false
theorem right_is (s : ByteArray) (v : Bool) (w : World) (hs : s.size ≤ 140737488351232) (hv : rightB s = v) :
    Calls Try.prog 67 #[.string s] w fun e w' => e = .returned (.bool v) ∧ Below w.heap.size w w' := by
  subst hv
  exact right_any s w hs
def inB (lo hi n : Int) : Bool := decide (lo ≤ n) && decide (n ≤ hi)
theorem inB_iff {lo hi n : Int} : inB lo hi n = true ↔ lo ≤ n ∧ n ≤ hi := by simp [inB]
set_option maxHeartbeats 400000 in
theorem pwithin_is (n lo hi : Int) (v : Bool) (w : World) (hv : inB lo hi n = v) :
    Calls Try.prog 68 #[.int .i64 n, .int .i64 lo, .int .i64 hi] w fun e w' => e = .returned (.bool v) ∧ w = w' := by
  have H := Lib.hid hv
  clear hv
  by_cases h : lo ≤ n
  all_goals
    go_enter Try.func68, Try.ntmps68
    go_wp2
    go_ret
    refine ⟨?_, rfl⟩
    rw [← H.out]
    exact ret_bool (by rw [Bool.eq_iff_iff]; simp [inB]; omega)
def hdB (s : ByteArray) : Bool := decide ((s.size : Int) = 29)
set_option maxHeartbeats 400000 in
theorem isHandle_is (s : ByteArray) (v : Bool) (w : World) (hv : hdB s = v) :
    Calls Try.prog 85 #[.string s] w fun e w' => e = .returned (.bool v) ∧ w = w' := by
  subst hv
  go_enter Try.func85, Try.ntmps85
  go_wp2
  go_ret
  exact ⟨ret_bool (by unfold hdB; first | rfl | simp), rfl⟩
set_option maxHeartbeats 400000 in
theorem mayEnd_is (n : Int) (v : Bool) (w : World) (hv : inB 0 268435455 n = v) :
    Calls Try.prog 79 #[.int .i64 n] w fun e w' => e = .returned (.bool v) ∧ w = w' := by
  have H := Lib.hid hv
  clear hv
  go_enter Try.func79, Try.ntmps79
  go_wp2_with fail
  refine (pwithin_is _ _ _ _ _ H.out).mono ?_
  rintro e w1 ⟨rfl, rfl⟩
  go_wp2_with fail
  go_ret
  exact ⟨rfl, rfl⟩
theorem psub_is (a b : Int) (v : Bool) (w : World) (hv : subB a b = v) :
    Calls Try.prog 78 #[.int .i64 a, .int .i64 b] w fun e w' => e = .returned (.bool v) ∧ w = w' := by
  subst hv
  exact sub_any a b w
def mayB (ri ba ex : Int) : Bool := subB ri ri && (inB 0 4294967295 ba && inB 0 268435455 ex)
set_option maxHeartbeats 800000 in
theorem mayBe_is (ri ba ex : Int) (v : Bool) (w : World) (hv : mayB ri ba ex = v) :
    Calls Try.prog 76 #[.int .i64 ri, .int .i64 ba, .int .i64 ex] w fun e w' => e = .returned (.bool v) ∧ w = w' := by
  subst hv
  unfold mayB
  cases h1 : subB ri ri
  · have H1 := Lib.hid h1
    clear h1
    go_enter Try.func76, Try.ntmps76
    go_wp2_with fail
    refine (psub_is _ _ _ _ H1.out).mono ?_
    rintro e w1 ⟨rfl, rfl⟩
    go_wp2_with fail
    go_ret
    exact ⟨rfl, rfl⟩
  · cases h2 : inB 0 4294967295 ba
    · have H1 := Lib.hid h1
      have H2 := Lib.hid h2
      clear h1 h2
      go_enter Try.func76, Try.ntmps76
      go_wp2_with fail
      refine (psub_is _ _ _ _ H1.out).mono ?_
      rintro e w1 ⟨rfl, rfl⟩
      go_wp2_with fail
      refine (pwithin_is _ _ _ _ _ H2.out).mono ?_
      rintro e w1 ⟨rfl, rfl⟩
      go_wp2_with fail
      go_ret
      exact ⟨rfl, rfl⟩
    · have H1 := Lib.hid h1
      have H2 := Lib.hid h2
      clear h1 h2
      generalize h3 : inB 0 268435455 ex = v
      have H3 := Lib.hid h3
      clear h3
      go_enter Try.func76, Try.ntmps76
      go_wp2_with fail
      refine (psub_is _ _ _ _ H1.out).mono ?_
      rintro e w1 ⟨rfl, rfl⟩
      go_wp2_with fail
      refine (pwithin_is _ _ _ _ _ H2.out).mono ?_
      rintro e w1 ⟨rfl, rfl⟩
      go_wp2_with fail
      refine (mayEnd_is _ _ _ H3.out).mono ?_
      rintro e w1 ⟨rfl, rfl⟩
      go_wp2_with fail
      go_ret
      exact ⟨by simp, rfl⟩
def helloR (nm : ByteArray) : Bool := rightB nm
set_option maxHeartbeats 1600000 in
set_option maxRecDepth 20000 in
theorem right_Hello (nm : ByteArray) (v : Bool) (w : World) (hs : nm.size ≤ 140737488351232) (hv : helloR nm = v) :
    Calls Try.prog 100 #[.agg #[.string nm]] w fun e w' => e = .returned (.bool v) ∧ Below w.heap.size w w' := by
  subst hv
  unfold helloR
  generalize h0 : (rightB nm) = v
  have H0 := Lib.hid h0
  clear h0
  go_enter Try.func100, Try.ntmps100
  go_wp2_with fail
  refine (right_is _ _ _ hs H0.out).mono ?_
  rintro e w1 ⟨rfl, b1⟩
  have K : w1.heap[w.heap.size]? = some (.cells #[.string nm] 64) := kept1 b1
  have B : Below w.heap.size w w1 := ((Below.refl _ _).alloc (Nat.le_refl _) _).trans (b1.mono (by simp))
  clear b1
  have k0 : w1.cell? ⟨w.heap.size, 0, none⟩ = some (.string nm) := by rw [Go.Joins.cell_of_block K]; rfl
  clear K
  go_wp2_with fail
  go_ret
  exact ⟨by simp, B⟩
def registerR (nm : ByteArray) (li : Int) : Bool := rightB nm && inB 0 1000 li
set_option maxHeartbeats 1600000 in
set_option maxRecDepth 20000 in
theorem right_Register (nm : ByteArray) (li : Int) (v : Bool) (w : World) (hs : nm.size ≤ 140737488351232) (hv : registerR nm li = v) :
    Calls Try.prog 66 #[.agg #[.string nm, .int .i64 li]] w fun e w' => e = .returned (.bool v) ∧ Below w.heap.size w w' := by
  subst hv
  unfold registerR
  cases h0 : rightB nm
  ·
    have H0 := Lib.hid h0
    clear h0
    go_enter Try.func66, Try.ntmps66
    go_wp2_with fail
    refine (right_is _ _ _ hs H0.out).mono ?_
    rintro e w1 ⟨rfl, b1⟩
    have K : w1.heap[w.heap.size]? = some (.cells #[.string nm, .int .i64 li] 51) := kept1 b1
    have B : Below w.heap.size w w1 := ((Below.refl _ _).alloc (Nat.le_refl _) _).trans (b1.mono (by simp))
    clear b1
    have k0 : w1.cell? ⟨w.heap.size, 0, none⟩ = some (.string nm) := by rw [Go.Joins.cell_of_block K]; rfl
    have k1 : w1.cell? ⟨w.heap.size, 1, none⟩ = some (.int .i64 li) := by rw [Go.Joins.cell_of_block K]; rfl
    clear K
    go_wp2_with fail
    go_ret
    exact ⟨by simp, B⟩
  ·
    generalize h1 : (inB 0 1000 li) = v
    have H0 := Lib.hid h0
    have H1 := Lib.hid h1
    clear h0 h1
    go_enter Try.func66, Try.ntmps66
    go_wp2_with fail
    refine (right_is _ _ _ hs H0.out).mono ?_
    rintro e w1 ⟨rfl, b1⟩
    have K : w1.heap[w.heap.size]? = some (.cells #[.string nm, .int .i64 li] 51) := kept1 b1
    have B : Below w.heap.size w w1 := ((Below.refl _ _).alloc (Nat.le_refl _) _).trans (b1.mono (by simp))
    clear b1
    have k0 : w1.cell? ⟨w.heap.size, 0, none⟩ = some (.string nm) := by rw [Go.Joins.cell_of_block K]; rfl
    have k1 : w1.cell? ⟨w.heap.size, 1, none⟩ = some (.int .i64 li) := by rw [Go.Joins.cell_of_block K]; rfl
    clear K
    go_wp2_with fail
    refine (pwithin_is _ _ _ _ _ H1.out).mono ?_
    rintro e w2 ⟨rfl, rfl⟩
    go_wp2_with fail
    go_ret
    exact ⟨by simp, B⟩
def mintR (ob : Int) (ri : Int) (ba : Int) (ex : Int) : Bool := inB 1 16777215 ob && mayB ri ba ex
set_option maxHeartbeats 1600000 in
set_option maxRecDepth 20000 in
theorem right_Mint (ob : Int) (ri : Int) (ba : Int) (ex : Int) (v : Bool) (w : World) (hv : mintR ob ri ba ex = v) :
    Calls Try.prog 74 #[.agg #[.int .i64 ob, .int .i64 ri, .int .i64 ba, .int .i64 ex]] w fun e w' => e = .returned (.bool v) ∧ Below w.heap.size w w' := by
  subst hv
  unfold mintR
  cases h0 : inB 1 16777215 ob
  ·
    have H0 := Lib.hid h0
    clear h0
    go_enter Try.func74, Try.ntmps74
    go_wp2_with fail
    refine (pwithin_is _ _ _ _ _ H0.out).mono ?_
    rintro e w1 ⟨rfl, rfl⟩
    go_wp2_with fail
    go_ret
    exact ⟨by simp, (Below.refl _ _).alloc (Nat.le_refl _) _⟩
  ·
    generalize h1 : (mayB ri ba ex) = v
    have H0 := Lib.hid h0
    have H1 := Lib.hid h1
    clear h0 h1
    go_enter Try.func74, Try.ntmps74
    go_wp2_with fail
    refine (pwithin_is _ _ _ _ _ H0.out).mono ?_
    rintro e w1 ⟨rfl, rfl⟩
    go_wp2_with fail
    refine (mayBe_is _ _ _ _ _ H1.out).mono ?_
    rintro e w2 ⟨rfl, rfl⟩
    go_wp2_with fail
    go_ret
    exact ⟨by simp, (Below.refl _ _).alloc (Nat.le_refl _) _⟩
def deriveR (hd : ByteArray) (nm : ByteArray) (ri : Int) (ba : Int) (ex : Int) : Bool := hdB hd && rightB nm && mayB ri ba ex
set_option maxHeartbeats 1600000 in
set_option maxRecDepth 20000 in
theorem right_Derive (hd : ByteArray) (nm : ByteArray) (ri : Int) (ba : Int) (ex : Int) (v : Bool) (w : World) (hs : nm.size ≤ 140737488351232) (hv : deriveR hd nm ri ba ex = v) :
    Calls Try.prog 107 #[.agg #[.string hd, .string nm, .int .i64 ri, .int .i64 ba, .int .i64 ex]] w fun e w' => e = .returned (.bool v) ∧ Below w.heap.size w w' := by
  subst hv
  unfold deriveR
  cases h0 : hdB hd
  ·
    have H0 := Lib.hid h0
    clear h0
    go_enter Try.func107, Try.ntmps107
    go_wp2_with fail
    refine (isHandle_is _ _ _ H0.out).mono ?_
    rintro e w1 ⟨rfl, rfl⟩
    go_wp2_with fail
    go_ret
    exact ⟨by simp, (Below.refl _ _).alloc (Nat.le_refl _) _⟩
  ·
    cases h1 : rightB nm
    ·
      have H0 := Lib.hid h0
      have H1 := Lib.hid h1
      clear h0 h1
      go_enter Try.func107, Try.ntmps107
      go_wp2_with fail
      refine (isHandle_is _ _ _ H0.out).mono ?_
      rintro e w1 ⟨rfl, rfl⟩
      go_wp2_with fail
      refine (right_is _ _ _ hs H1.out).mono ?_
      rintro e w2 ⟨rfl, b2⟩
      have K : w2.heap[w.heap.size]? = some (.cells #[.string hd, .string nm, .int .i64 ri, .int .i64 ba, .int .i64 ex] 83) := kept1 b2
      have B : Below w.heap.size w w2 := ((Below.refl _ _).alloc (Nat.le_refl _) _).trans (b2.mono (by simp))
      clear b2
      have k0 : w2.cell? ⟨w.heap.size, 0, none⟩ = some (.string hd) := by rw [Go.Joins.cell_of_block K]; rfl
      have k1 : w2.cell? ⟨w.heap.size, 1, none⟩ = some (.string nm) := by rw [Go.Joins.cell_of_block K]; rfl
      have k2 : w2.cell? ⟨w.heap.size, 2, none⟩ = some (.int .i64 ri) := by rw [Go.Joins.cell_of_block K]; rfl
      have k3 : w2.cell? ⟨w.heap.size, 3, none⟩ = some (.int .i64 ba) := by rw [Go.Joins.cell_of_block K]; rfl
      have k4 : w2.cell? ⟨w.heap.size, 4, none⟩ = some (.int .i64 ex) := by rw [Go.Joins.cell_of_block K]; rfl
      clear K
      go_wp2_with fail
      go_ret
      exact ⟨by simp, B⟩
    ·
      generalize h2 : (mayB ri ba ex) = v
      have H0 := Lib.hid h0
      have H1 := Lib.hid h1
      have H2 := Lib.hid h2
      clear h0 h1 h2
      go_enter Try.func107, Try.ntmps107
      go_wp2_with fail
      refine (isHandle_is _ _ _ H0.out).mono ?_
      rintro e w1 ⟨rfl, rfl⟩
      go_wp2_with fail
      refine (right_is _ _ _ hs H1.out).mono ?_
      rintro e w2 ⟨rfl, b2⟩
      have K : w2.heap[w.heap.size]? = some (.cells #[.string hd, .string nm, .int .i64 ri, .int .i64 ba, .int .i64 ex] 83) := kept1 b2
      have B : Below w.heap.size w w2 := ((Below.refl _ _).alloc (Nat.le_refl _) _).trans (b2.mono (by simp))
      clear b2
      have k0 : w2.cell? ⟨w.heap.size, 0, none⟩ = some (.string hd) := by rw [Go.Joins.cell_of_block K]; rfl
      have k1 : w2.cell? ⟨w.heap.size, 1, none⟩ = some (.string nm) := by rw [Go.Joins.cell_of_block K]; rfl
      have k2 : w2.cell? ⟨w.heap.size, 2, none⟩ = some (.int .i64 ri) := by rw [Go.Joins.cell_of_block K]; rfl
      have k3 : w2.cell? ⟨w.heap.size, 3, none⟩ = some (.int .i64 ba) := by rw [Go.Joins.cell_of_block K]; rfl
      have k4 : w2.cell? ⟨w.heap.size, 4, none⟩ = some (.int .i64 ex) := by rw [Go.Joins.cell_of_block K]; rfl
      clear K
      go_wp2_with fail
      refine (mayBe_is _ _ _ _ _ H2.out).mono ?_
      rintro e w3 ⟨rfl, rfl⟩
      go_wp2_with fail
      go_ret
      exact ⟨by simp, B⟩
def renewR (hd : ByteArray) (ex : Int) : Bool := hdB hd && inB 0 268435455 ex
set_option maxHeartbeats 1600000 in
set_option maxRecDepth 20000 in
theorem right_Renew (hd : ByteArray) (ex : Int) (v : Bool) (w : World) (hv : renewR hd ex = v) :
    Calls Try.prog 97 #[.agg #[.string hd, .int .i64 ex]] w fun e w' => e = .returned (.bool v) ∧ Below w.heap.size w w' := by
  subst hv
  unfold renewR
  cases h0 : hdB hd
  ·
    have H0 := Lib.hid h0
    clear h0
    go_enter Try.func97, Try.ntmps97
    go_wp2_with fail
    refine (isHandle_is _ _ _ H0.out).mono ?_
    rintro e w1 ⟨rfl, rfl⟩
    go_wp2_with fail
    go_ret
    exact ⟨by simp, (Below.refl _ _).alloc (Nat.le_refl _) _⟩
  ·
    generalize h1 : (inB 0 268435455 ex) = v
    have H0 := Lib.hid h0
    have H1 := Lib.hid h1
    clear h0 h1
    go_enter Try.func97, Try.ntmps97
    go_wp2_with fail
    refine (isHandle_is _ _ _ H0.out).mono ?_
    rintro e w1 ⟨rfl, rfl⟩
    go_wp2_with fail
    refine (mayEnd_is _ _ _ H1.out).mono ?_
    rintro e w2 ⟨rfl, rfl⟩
    go_wp2_with fail
    go_ret
    exact ⟨by simp, (Below.refl _ _).alloc (Nat.le_refl _) _⟩
def validateR (hd : ByteArray) : Bool := hdB hd
set_option maxHeartbeats 1600000 in
set_option maxRecDepth 20000 in
theorem right_Validate (hd : ByteArray) (v : Bool) (w : World) (hv : validateR hd = v) :
    Calls Try.prog 84 #[.agg #[.string hd]] w fun e w' => e = .returned (.bool v) ∧ Below w.heap.size w w' := by
  subst hv
  unfold validateR
  generalize h0 : (hdB hd) = v
  have H0 := Lib.hid h0
  clear h0
  go_enter Try.func84, Try.ntmps84
  go_wp2_with fail
  refine (isHandle_is _ _ _ H0.out).mono ?_
  rintro e w1 ⟨rfl, rfl⟩
  go_wp2_with fail
  go_ret
  exact ⟨by simp, (Below.refl _ _).alloc (Nat.le_refl _) _⟩
def invokeR (hd : ByteArray) (rt : Int) : Bool := hdB hd && inB 97 112 rt
set_option maxHeartbeats 1600000 in
set_option maxRecDepth 20000 in
theorem right_Invoke (hd : ByteArray) (rt : Int) (v : Bool) (w : World) (hv : invokeR hd rt = v) :
    Calls Try.prog 89 #[.agg #[.string hd, .int .i32 rt]] w fun e w' => e = .returned (.bool v) ∧ Below w.heap.size w w' := by
  subst hv
  unfold invokeR
  cases h0 : hdB hd
  ·
    have H0 := Lib.hid h0
    clear h0
    go_enter Try.func89, Try.ntmps89
    go_wp2_with fail
    refine (isHandle_is _ _ _ H0.out).mono ?_
    rintro e w1 ⟨rfl, rfl⟩
    go_wp2_with fail
    go_ret
    exact ⟨by simp, (Below.refl _ _).alloc (Nat.le_refl _) _⟩
  ·
    generalize h1 : (inB 97 112 rt) = v
    have H0 := Lib.hid h0
    have H1 := Lib.hid h1
    clear h0 h1
    go_enter Try.func89, Try.ntmps89
    go_wp2_with fail
    refine (isHandle_is _ _ _ H0.out).mono ?_
    rintro e w1 ⟨rfl, rfl⟩
    go_wp2_with fail
    all_goals
      go_ret
      refine ⟨?_, (Below.refl _ _).alloc (Nat.le_refl _) _⟩
      rw [← H1.out]
      exact ret_bool (by rw [Bool.eq_iff_iff]; simp [inB]; omega)
def revokeR (hd : ByteArray) : Bool := hdB hd
set_option maxHeartbeats 1600000 in
set_option maxRecDepth 20000 in
theorem right_Revoke (hd : ByteArray) (sf : Bool) (v : Bool) (w : World) (hv : revokeR hd = v) :
    Calls Try.prog 111 #[.agg #[.string hd, .bool sf]] w fun e w' => e = .returned (.bool v) ∧ Below w.heap.size w w' := by
  subst hv
  unfold revokeR
  generalize h0 : (hdB hd) = v
  have H0 := Lib.hid h0
  clear h0
  go_enter Try.func111, Try.ntmps111
  go_wp2_with fail
  refine (isHandle_is _ _ _ H0.out).mono ?_
  rintro e w1 ⟨rfl, rfl⟩
  go_wp2_with fail
  go_ret
  exact ⟨by simp, (Below.refl _ _).alloc (Nat.le_refl _) _⟩
def deleteR (hd : ByteArray) : Bool := hdB hd
set_option maxHeartbeats 1600000 in
set_option maxRecDepth 20000 in
theorem right_Delete (hd : ByteArray) (v : Bool) (w : World) (hv : deleteR hd = v) :
    Calls Try.prog 116 #[.agg #[.string hd]] w fun e w' => e = .returned (.bool v) ∧ Below w.heap.size w w' := by
  subst hv
  unfold deleteR
  generalize h0 : (hdB hd) = v
  have H0 := Lib.hid h0
  clear h0
  go_enter Try.func116, Try.ntmps116
  go_wp2_with fail
  refine (isHandle_is _ _ _ H0.out).mono ?_
  rintro e w1 ⟨rfl, rfl⟩
  go_wp2_with fail
  go_ret
  exact ⟨by simp, (Below.refl _ _).alloc (Nat.le_refl _) _⟩
def moveR (hd : ByteArray) (to : ByteArray) : Bool := hdB hd && hdB to
set_option maxHeartbeats 1600000 in
set_option maxRecDepth 20000 in
theorem right_Move (hd : ByteArray) (to : ByteArray) (v : Bool) (w : World) (hv : moveR hd to = v) :
    Calls Try.prog 120 #[.agg #[.string hd, .string to]] w fun e w' => e = .returned (.bool v) ∧ Below w.heap.size w w' := by
  subst hv
  unfold moveR
  cases h0 : hdB hd
  ·
    have H0 := Lib.hid h0
    clear h0
    go_enter Try.func120, Try.ntmps120
    go_wp2_with fail
    refine (isHandle_is _ _ _ H0.out).mono ?_
    rintro e w1 ⟨rfl, rfl⟩
    go_wp2_with fail
    go_ret
    exact ⟨by simp, (Below.refl _ _).alloc (Nat.le_refl _) _⟩
  ·
    generalize h1 : (hdB to) = v
    have H0 := Lib.hid h0
    have H1 := Lib.hid h1
    clear h0 h1
    go_enter Try.func120, Try.ntmps120
    go_wp2_with fail
    refine (isHandle_is _ _ _ H0.out).mono ?_
    rintro e w1 ⟨rfl, rfl⟩
    go_wp2_with fail
    refine (isHandle_is _ _ _ H1.out).mono ?_
    rintro e w2 ⟨rfl, rfl⟩
    go_wp2_with fail
    go_ret
    exact ⟨by simp, (Below.refl _ _).alloc (Nat.le_refl _) _⟩
def listR (hd : ByteArray) (fr : Int) (mo : Int) : Bool := hdB hd && inB 0 16777215 fr && inB 0 10 mo
set_option maxHeartbeats 1600000 in
set_option maxRecDepth 20000 in
theorem right_List (hd : ByteArray) (fr : Int) (mo : Int) (v : Bool) (w : World) (hv : listR hd fr mo = v) :
    Calls Try.prog 93 #[.agg #[.string hd, .int .i64 fr, .int .i64 mo]] w fun e w' => e = .returned (.bool v) ∧ Below w.heap.size w w' := by
  subst hv
  unfold listR
  cases h0 : hdB hd
  ·
    have H0 := Lib.hid h0
    clear h0
    go_enter Try.func93, Try.ntmps93
    go_wp2_with fail
    refine (isHandle_is _ _ _ H0.out).mono ?_
    rintro e w1 ⟨rfl, rfl⟩
    go_wp2_with fail
    go_ret
    exact ⟨by simp, (Below.refl _ _).alloc (Nat.le_refl _) _⟩
  ·
    cases h1 : inB 0 16777215 fr
    ·
      have H0 := Lib.hid h0
      have H1 := Lib.hid h1
      clear h0 h1
      go_enter Try.func93, Try.ntmps93
      go_wp2_with fail
      refine (isHandle_is _ _ _ H0.out).mono ?_
      rintro e w1 ⟨rfl, rfl⟩
      go_wp2_with fail
      refine (pwithin_is _ _ _ _ _ H1.out).mono ?_
      rintro e w2 ⟨rfl, rfl⟩
      go_wp2_with fail
      go_ret
      exact ⟨by simp, (Below.refl _ _).alloc (Nat.le_refl _) _⟩
    ·
      generalize h2 : (inB 0 10 mo) = v
      have H0 := Lib.hid h0
      have H1 := Lib.hid h1
      have H2 := Lib.hid h2
      clear h0 h1 h2
      go_enter Try.func93, Try.ntmps93
      go_wp2_with fail
      refine (isHandle_is _ _ _ H0.out).mono ?_
      rintro e w1 ⟨rfl, rfl⟩
      go_wp2_with fail
      refine (pwithin_is _ _ _ _ _ H1.out).mono ?_
      rintro e w2 ⟨rfl, rfl⟩
      go_wp2_with fail
      refine (pwithin_is _ _ _ _ _ H2.out).mono ?_
      rintro e w3 ⟨rfl, rfl⟩
      go_wp2_with fail
      go_ret
      exact ⟨by simp, (Below.refl _ _).alloc (Nat.le_refl _) _⟩
def quotaR  : Bool := true
def rotateR  : Bool := true
set_option maxHeartbeats 1600000 in
set_option maxRecDepth 20000 in
theorem right_Rotate  (v : Bool) (w : World) (hv : rotateR  = v) :
    Calls Try.prog 123 #[.agg #[]] w fun e w' => e = .returned (.bool v) ∧ Below w.heap.size w w' := by
  subst hv
  unfold rotateR
  go_enter Try.func123, Try.ntmps123
  go_wp2_with fail
  go_ret
  exact ⟨rfl, (Below.refl _ _).alloc (Nat.le_refl _) _⟩
end Go.Proofs.Ytemhlhcaahaecaa
