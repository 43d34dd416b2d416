/-
  Package proto: the bytes of each request's fields.
-/
import Derived.Test.YtemhlhcaahaecaaProtoProper
import Derived.Deep.RegionHeld3
namespace Go.Proofs.Ytemhlhcaahaecaa
open Go.RowKit
set_option linter.unusedVariables false
set_option linter.unusedSimpArgs false
theorem keepN {S : World → Prop} {w1 a b : World} (C : ∀ w', Below w1.heap.size w1 w' → S w') (h : Below w1.heap.size w1 a ∧ S a) (k : Below a.heap.size a b) : Below w1.heap.size w1 b ∧ S b :=
  ⟨chain h.1 k, C _ (chain h.1 k)⟩
def yesB (b : Bool) : ByteArray := if b = true then ⟨#[1]⟩ else ⟨#[0]⟩
theorem pyes_is (b : Bool) (x : ByteArray) (w : World) (hx : yesB b = x) :
    Calls Try.prog 112 #[.bool b] w fun e w' => e = .returned (.string x) ∧ Below w.heap.size w w' := by
  subst hx
  cases b
  all_goals
    go_enter Try.func112, Try.ntmps112
    go_wp2
    go_ret
    exact ⟨rfl, Below.refl _ _⟩
set_option maxHeartbeats 3200000 in
set_option maxRecDepth 20000 in
theorem fields_Hello (nm : ByteArray) (w : World) (x0 : ByteArray) (h0 : Hid (textL nm = x0)) (s0 : x0.size ≤ 256) :
    Calls Try.prog 99 #[.agg #[.string nm]] w fun e w' => e = .returned (.string (x0)) ∧ Below w.heap.size w w' := by
  go_enter Try.func99, Try.ntmps99
  go_wp2_with fail
  refine (ptext_is _ _ _ h0.out).mono ?_
  rintro e w1 ⟨rfl, b1⟩
  go_wp2_with fail
  go_ret
  exact ⟨rfl, ((Below.refl _ _).alloc (Nat.le_refl _) _).trans (b1.mono (by simp))⟩
set_option maxHeartbeats 3200000 in
set_option maxRecDepth 20000 in
theorem fields_Register (nm : ByteArray) (li : Int) (w : World) (x0 : ByteArray) (h0 : Hid (textL nm = x0)) (s0 : x0.size ≤ 256) (x1 : ByteArray) (h1 : Hid (Str (putL li 2) = x1)) (s1 : x1.size ≤ 8) (l1 : 0 ≤ li) (u1 : li ≤ 9223372036854775807) :
    Calls Try.prog 65 #[.agg #[.string nm, .int .i64 li]] w fun e w' => e = .returned (.string (x0 ++ x1)) ∧ Below w.heap.size w w' := by
  have z1 : (9223372036854775807 < x0.size + x1.size) = False := by rw [eq_iff_iff, iff_false]; omega
  go_enter Try.func65, Try.ntmps65
  go_wp2_with fail
  obtain ⟨w1, hw1⟩ : ∃ w1, w.alloc (.cells #[.string nm, .int .i64 li] 51) = w1 := ⟨_, rfl⟩
  have hlt : w.heap.size < w1.heap.size := by rw [← hw1]; simp
  have CC : Hid (∀ w', Below w1.heap.size w1 w' → w'.cell? ⟨w.heap.size, 0, none⟩ = some (.string nm) ∧ w'.cell? ⟨w.heap.size, 1, none⟩ = some (.int .i64 li)) := Lib.hid fun w' h => by
    refine ⟨?_, ?_⟩
    all_goals
      rw [h.cell hlt, ← hw1]
      simp
  have bb : Below w.heap.size w w1 := by rw [← hw1]; exact (Below.refl _ _).alloc (Nat.le_refl _) _
  rw [hw1]
  clear hw1 hlt
  have B0 : Below w1.heap.size w1 w1 := Below.refl _ _
  have C0 := CC.out w1 B0
  go_region_held3 (fun w' => Below w1.heap.size w1 w' ∧ w'.cell? ⟨w.heap.size, 0, none⟩ = some (.string nm) ∧ w'.cell? ⟨w.heap.size, 1, none⟩ = some (.int .i64 li)) (first | assumption | exact ⟨B0.drew, CC.out _ B0.drew⟩ | exact keepN CC.out ⟨B0.drew, CC.out _ B0.drew⟩ b9 | exact keepN CC.out (by assumption) b9) ((first | (go_at_call 22; refine (ptext_is _ _ _ h0.out).mono ?_; rintro e w9 ⟨rfl, b9⟩) | (go_at_call 21; refine (pnumber_is _ _ _ _ (by omega) (by omega) (by first | exact h1.out)).mono ?_; rintro e w9 ⟨rfl, b9⟩)))
  rename_i hH
  go_wp2_with fail
  go_ret
  exact ⟨rfl, chain bb hH.1⟩
set_option maxHeartbeats 3200000 in
set_option maxRecDepth 20000 in
theorem fields_Mint (ob : Int) (ri : Int) (ba : Int) (ex : Int) (w : World) (x0 : ByteArray) (h0 : Hid (Str (putL ob 3) = x0)) (s0 : x0.size ≤ 8) (l0 : 0 ≤ ob) (u0 : ob ≤ 9223372036854775807) (x1 : ByteArray) (h1 : Hid (∀ w, Calls Try.prog 75 #[.int .i64 ri] w fun e w' => e = .returned (.string x1) ∧ Below w.heap.size w w')) (s1 : x1.size ≤ 300) (x2 : ByteArray) (h2 : Hid (Str (putL ba 4) = x2)) (s2 : x2.size ≤ 8) (l2 : 0 ≤ ba) (u2 : ba ≤ 9223372036854775807) (x3 : ByteArray) (h3 : Hid (Str (putL ex 4) = x3)) (s3 : x3.size ≤ 8) (l3 : 0 ≤ ex) (u3 : ex ≤ 9223372036854775807) :
    Calls Try.prog 73 #[.agg #[.int .i64 ob, .int .i64 ri, .int .i64 ba, .int .i64 ex]] w fun e w' => e = .returned (.string (x0 ++ x1 ++ x2 ++ x3)) ∧ Below w.heap.size w w' := by
  have z1 : (9223372036854775807 < x0.size + x1.size) = False := by rw [eq_iff_iff, iff_false]; omega
  have z2 : (9223372036854775807 < x0.size + x1.size + x2.size) = False := by rw [eq_iff_iff, iff_false]; omega
  have z3 : (9223372036854775807 < x0.size + x1.size + x2.size + x3.size) = False := by rw [eq_iff_iff, iff_false]; omega
  go_enter Try.func73, Try.ntmps73
  go_wp2_with fail
  obtain ⟨w1, hw1⟩ : ∃ w1, w.alloc (.cells #[.int .i64 ob, .int .i64 ri, .int .i64 ba, .int .i64 ex] 53) = w1 := ⟨_, rfl⟩
  have hlt : w.heap.size < w1.heap.size := by rw [← hw1]; simp
  have CC : Hid (∀ w', Below w1.heap.size w1 w' → w'.cell? ⟨w.heap.size, 0, none⟩ = some (.int .i64 ob) ∧ w'.cell? ⟨w.heap.size, 1, none⟩ = some (.int .i64 ri) ∧ w'.cell? ⟨w.heap.size, 2, none⟩ = some (.int .i64 ba) ∧ w'.cell? ⟨w.heap.size, 3, none⟩ = some (.int .i64 ex)) := Lib.hid fun w' h => by
    refine ⟨?_, ?_, ?_, ?_⟩
    all_goals
      rw [h.cell hlt, ← hw1]
      simp
  have bb : Below w.heap.size w w1 := by rw [← hw1]; exact (Below.refl _ _).alloc (Nat.le_refl _) _
  rw [hw1]
  clear hw1 hlt
  have B0 : Below w1.heap.size w1 w1 := Below.refl _ _
  have C0 := CC.out w1 B0
  go_region_held3 (fun w' => Below w1.heap.size w1 w' ∧ w'.cell? ⟨w.heap.size, 0, none⟩ = some (.int .i64 ob) ∧ w'.cell? ⟨w.heap.size, 1, none⟩ = some (.int .i64 ri) ∧ w'.cell? ⟨w.heap.size, 2, none⟩ = some (.int .i64 ba) ∧ w'.cell? ⟨w.heap.size, 3, none⟩ = some (.int .i64 ex)) (first | assumption | exact ⟨B0.drew, CC.out _ B0.drew⟩ | exact keepN CC.out ⟨B0.drew, CC.out _ B0.drew⟩ b9 | exact keepN CC.out (by assumption) b9) ((first | (go_at_call 75; refine (h1.out _).mono ?_; rintro e w9 ⟨rfl, b9⟩) | (go_at_call 21; refine (pnumber_is _ _ _ _ (by omega) (by omega) (by first | exact h0.out | exact h2.out | exact h3.out)).mono ?_; rintro e w9 ⟨rfl, b9⟩)))
  rename_i hH
  go_wp2_with fail
  go_ret
  exact ⟨rfl, chain bb hH.1⟩
set_option maxHeartbeats 3200000 in
set_option maxRecDepth 20000 in
theorem fields_Derive (hd : ByteArray) (nm : ByteArray) (ri : Int) (ba : Int) (ex : Int) (w : World) (s0 : hd.size ≤ 29) (x1 : ByteArray) (h1 : Hid (textL nm = x1)) (s1 : x1.size ≤ 256) (x2 : ByteArray) (h2 : Hid (∀ w, Calls Try.prog 75 #[.int .i64 ri] w fun e w' => e = .returned (.string x2) ∧ Below w.heap.size w w')) (s2 : x2.size ≤ 300) (x3 : ByteArray) (h3 : Hid (Str (putL ba 4) = x3)) (s3 : x3.size ≤ 8) (l3 : 0 ≤ ba) (u3 : ba ≤ 9223372036854775807) (x4 : ByteArray) (h4 : Hid (Str (putL ex 4) = x4)) (s4 : x4.size ≤ 8) (l4 : 0 ≤ ex) (u4 : ex ≤ 9223372036854775807) :
    Calls Try.prog 106 #[.agg #[.string hd, .string nm, .int .i64 ri, .int .i64 ba, .int .i64 ex]] w fun e w' => e = .returned (.string (hd ++ x1 ++ x2 ++ x3 ++ x4)) ∧ Below w.heap.size w w' := by
  have z1 : (9223372036854775807 < hd.size + x1.size) = False := by rw [eq_iff_iff, iff_false]; omega
  have z2 : (9223372036854775807 < hd.size + x1.size + x2.size) = False := by rw [eq_iff_iff, iff_false]; omega
  have z3 : (9223372036854775807 < hd.size + x1.size + x2.size + x3.size) = False := by rw [eq_iff_iff, iff_false]; omega
  have z4 : (9223372036854775807 < hd.size + x1.size + x2.size + x3.size + x4.size) = False := by rw [eq_iff_iff, iff_false]; omega
  go_enter Try.func106, Try.ntmps106
  go_wp2_with fail
  obtain ⟨w1, hw1⟩ : ∃ w1, w.alloc (.cells #[.string hd, .string nm, .int .i64 ri, .int .i64 ba, .int .i64 ex] 83) = w1 := ⟨_, rfl⟩
  have hlt : w.heap.size < w1.heap.size := by rw [← hw1]; simp
  have CC : Hid (∀ w', Below w1.heap.size w1 w' → w'.cell? ⟨w.heap.size, 0, none⟩ = some (.string hd) ∧ w'.cell? ⟨w.heap.size, 1, none⟩ = some (.string nm) ∧ w'.cell? ⟨w.heap.size, 2, none⟩ = some (.int .i64 ri) ∧ w'.cell? ⟨w.heap.size, 3, none⟩ = some (.int .i64 ba) ∧ w'.cell? ⟨w.heap.size, 4, none⟩ = some (.int .i64 ex)) := Lib.hid fun w' h => by
    refine ⟨?_, ?_, ?_, ?_, ?_⟩
    all_goals
      rw [h.cell hlt, ← hw1]
      simp
  have bb : Below w.heap.size w w1 := by rw [← hw1]; exact (Below.refl _ _).alloc (Nat.le_refl _) _
  rw [hw1]
  clear hw1 hlt
  have B0 : Below w1.heap.size w1 w1 := Below.refl _ _
  have C0 := CC.out w1 B0
  go_region_held3 (fun w' => Below w1.heap.size w1 w' ∧ w'.cell? ⟨w.heap.size, 0, none⟩ = some (.string hd) ∧ w'.cell? ⟨w.heap.size, 1, none⟩ = some (.string nm) ∧ w'.cell? ⟨w.heap.size, 2, none⟩ = some (.int .i64 ri) ∧ w'.cell? ⟨w.heap.size, 3, none⟩ = some (.int .i64 ba) ∧ w'.cell? ⟨w.heap.size, 4, none⟩ = some (.int .i64 ex)) (first | assumption | exact ⟨B0.drew, CC.out _ B0.drew⟩ | exact keepN CC.out ⟨B0.drew, CC.out _ B0.drew⟩ b9 | exact keepN CC.out (by assumption) b9) ((first | (go_at_call 22; refine (ptext_is _ _ _ h1.out).mono ?_; rintro e w9 ⟨rfl, b9⟩) | (go_at_call 75; refine (h2.out _).mono ?_; rintro e w9 ⟨rfl, b9⟩) | (go_at_call 21; refine (pnumber_is _ _ _ _ (by omega) (by omega) (by first | exact h3.out | exact h4.out)).mono ?_; rintro e w9 ⟨rfl, b9⟩)))
  rename_i hH
  go_wp2_with fail
  go_ret
  exact ⟨rfl, chain bb hH.1⟩
set_option maxHeartbeats 3200000 in
set_option maxRecDepth 20000 in
theorem fields_Renew (hd : ByteArray) (ex : Int) (w : World) (s0 : hd.size ≤ 29) (x1 : ByteArray) (h1 : Hid (Str (putL ex 4) = x1)) (s1 : x1.size ≤ 8) (l1 : 0 ≤ ex) (u1 : ex ≤ 9223372036854775807) :
    Calls Try.prog 96 #[.agg #[.string hd, .int .i64 ex]] w fun e w' => e = .returned (.string (hd ++ x1)) ∧ Below w.heap.size w w' := by
  have z1 : (9223372036854775807 < hd.size + x1.size) = False := by rw [eq_iff_iff, iff_false]; omega
  go_enter Try.func96, Try.ntmps96
  go_wp2_with fail
  obtain ⟨w1, hw1⟩ : ∃ w1, w.alloc (.cells #[.string hd, .int .i64 ex] 62) = w1 := ⟨_, rfl⟩
  have hlt : w.heap.size < w1.heap.size := by rw [← hw1]; simp
  have CC : Hid (∀ w', Below w1.heap.size w1 w' → w'.cell? ⟨w.heap.size, 0, none⟩ = some (.string hd) ∧ w'.cell? ⟨w.heap.size, 1, none⟩ = some (.int .i64 ex)) := Lib.hid fun w' h => by
    refine ⟨?_, ?_⟩
    all_goals
      rw [h.cell hlt, ← hw1]
      simp
  have bb : Below w.heap.size w w1 := by rw [← hw1]; exact (Below.refl _ _).alloc (Nat.le_refl _) _
  rw [hw1]
  clear hw1 hlt
  have B0 : Below w1.heap.size w1 w1 := Below.refl _ _
  have C0 := CC.out w1 B0
  go_region_held3 (fun w' => Below w1.heap.size w1 w' ∧ w'.cell? ⟨w.heap.size, 0, none⟩ = some (.string hd) ∧ w'.cell? ⟨w.heap.size, 1, none⟩ = some (.int .i64 ex)) (first | assumption | exact ⟨B0.drew, CC.out _ B0.drew⟩ | exact keepN CC.out ⟨B0.drew, CC.out _ B0.drew⟩ b9 | exact keepN CC.out (by assumption) b9) ((first | (go_at_call 21; refine (pnumber_is _ _ _ _ (by omega) (by omega) (by first | exact h1.out)).mono ?_; rintro e w9 ⟨rfl, b9⟩)))
  rename_i hH
  go_wp2_with fail
  go_ret
  exact ⟨rfl, chain bb hH.1⟩
set_option maxHeartbeats 3200000 in
set_option maxRecDepth 20000 in
theorem fields_Validate (hd : ByteArray) (w : World) (s0 : hd.size ≤ 29) :
    Calls Try.prog 83 #[.agg #[.string hd]] w fun e w' => e = .returned (.string (hd)) ∧ Below w.heap.size w w' := by
  go_enter Try.func83, Try.ntmps83
  go_wp2_with fail
  go_ret
  exact ⟨rfl, (Below.refl _ _).alloc (Nat.le_refl _) _⟩
set_option maxHeartbeats 3200000 in
set_option maxRecDepth 20000 in
theorem fields_Revoke (hd : ByteArray) (sf : Bool) (w : World) (s0 : hd.size ≤ 29) (x1 : ByteArray) (h1 : Hid (yesB sf = x1)) (s1 : x1.size ≤ 8) :
    Calls Try.prog 110 #[.agg #[.string hd, .bool sf]] w fun e w' => e = .returned (.string (hd ++ x1)) ∧ Below w.heap.size w w' := by
  have z1 : (9223372036854775807 < hd.size + x1.size) = False := by rw [eq_iff_iff, iff_false]; omega
  go_enter Try.func110, Try.ntmps110
  go_wp2_with fail
  obtain ⟨w1, hw1⟩ : ∃ w1, w.alloc (.cells #[.string hd, .bool sf] 85) = w1 := ⟨_, rfl⟩
  have hlt : w.heap.size < w1.heap.size := by rw [← hw1]; simp
  have CC : Hid (∀ w', Below w1.heap.size w1 w' → w'.cell? ⟨w.heap.size, 0, none⟩ = some (.string hd) ∧ w'.cell? ⟨w.heap.size, 1, none⟩ = some (.bool sf)) := Lib.hid fun w' h => by
    refine ⟨?_, ?_⟩
    all_goals
      rw [h.cell hlt, ← hw1]
      simp
  have bb : Below w.heap.size w w1 := by rw [← hw1]; exact (Below.refl _ _).alloc (Nat.le_refl _) _
  rw [hw1]
  clear hw1 hlt
  have B0 : Below w1.heap.size w1 w1 := Below.refl _ _
  have C0 := CC.out w1 B0
  go_region_held3 (fun w' => Below w1.heap.size w1 w' ∧ w'.cell? ⟨w.heap.size, 0, none⟩ = some (.string hd) ∧ w'.cell? ⟨w.heap.size, 1, none⟩ = some (.bool sf)) (first | assumption | exact ⟨B0.drew, CC.out _ B0.drew⟩ | exact keepN CC.out ⟨B0.drew, CC.out _ B0.drew⟩ b9 | exact keepN CC.out (by assumption) b9) ((first | (go_at_call 112; refine (pyes_is _ _ _ h1.out).mono ?_; rintro e w9 ⟨rfl, b9⟩)))
  rename_i hH
  go_wp2_with fail
  go_ret
  exact ⟨rfl, chain bb hH.1⟩
set_option maxHeartbeats 3200000 in
set_option maxRecDepth 20000 in
theorem fields_Delete (hd : ByteArray) (w : World) (s0 : hd.size ≤ 29) :
    Calls Try.prog 115 #[.agg #[.string hd]] w fun e w' => e = .returned (.string (hd)) ∧ Below w.heap.size w w' := by
  go_enter Try.func115, Try.ntmps115
  go_wp2_with fail
  go_ret
  exact ⟨rfl, (Below.refl _ _).alloc (Nat.le_refl _) _⟩
set_option maxHeartbeats 3200000 in
set_option maxRecDepth 20000 in
theorem fields_Move (hd : ByteArray) (to : ByteArray) (w : World) (s0 : hd.size ≤ 29) (s1 : to.size ≤ 29) :
    Calls Try.prog 119 #[.agg #[.string hd, .string to]] w fun e w' => e = .returned (.string (hd ++ to)) ∧ Below w.heap.size w w' := by
  have z1 : (9223372036854775807 < hd.size + to.size) = False := by rw [eq_iff_iff, iff_false]; omega
  go_enter Try.func119, Try.ntmps119
  go_wp2_with fail
  go_ret
  exact ⟨rfl, (Below.refl _ _).alloc (Nat.le_refl _) _⟩
set_option maxHeartbeats 3200000 in
set_option maxRecDepth 20000 in
theorem fields_List (hd : ByteArray) (fr : Int) (mo : Int) (w : World) (s0 : hd.size ≤ 29) (x1 : ByteArray) (h1 : Hid (Str (putL fr 3) = x1)) (s1 : x1.size ≤ 8) (l1 : 0 ≤ fr) (u1 : fr ≤ 9223372036854775807) (x2 : ByteArray) (h2 : Hid (Str (putL mo 1) = x2)) (s2 : x2.size ≤ 8) (l2 : 0 ≤ mo) (u2 : mo ≤ 9223372036854775807) :
    Calls Try.prog 92 #[.agg #[.string hd, .int .i64 fr, .int .i64 mo]] w fun e w' => e = .returned (.string (hd ++ x1 ++ x2)) ∧ Below w.heap.size w w' := by
  have z1 : (9223372036854775807 < hd.size + x1.size) = False := by rw [eq_iff_iff, iff_false]; omega
  have z2 : (9223372036854775807 < hd.size + x1.size + x2.size) = False := by rw [eq_iff_iff, iff_false]; omega
  go_enter Try.func92, Try.ntmps92
  go_wp2_with fail
  obtain ⟨w1, hw1⟩ : ∃ w1, w.alloc (.cells #[.string hd, .int .i64 fr, .int .i64 mo] 60) = w1 := ⟨_, rfl⟩
  have hlt : w.heap.size < w1.heap.size := by rw [← hw1]; simp
  have CC : Hid (∀ w', Below w1.heap.size w1 w' → w'.cell? ⟨w.heap.size, 0, none⟩ = some (.string hd) ∧ w'.cell? ⟨w.heap.size, 1, none⟩ = some (.int .i64 fr) ∧ w'.cell? ⟨w.heap.size, 2, none⟩ = some (.int .i64 mo)) := Lib.hid fun w' h => by
    refine ⟨?_, ?_, ?_⟩
    all_goals
      rw [h.cell hlt, ← hw1]
      simp
  have bb : Below w.heap.size w w1 := by rw [← hw1]; exact (Below.refl _ _).alloc (Nat.le_refl _) _
  rw [hw1]
  clear hw1 hlt
  have B0 : Below w1.heap.size w1 w1 := Below.refl _ _
  have C0 := CC.out w1 B0
  go_region_held3 (fun w' => Below w1.heap.size w1 w' ∧ w'.cell? ⟨w.heap.size, 0, none⟩ = some (.string hd) ∧ w'.cell? ⟨w.heap.size, 1, none⟩ = some (.int .i64 fr) ∧ w'.cell? ⟨w.heap.size, 2, none⟩ = some (.int .i64 mo)) (first | assumption | exact ⟨B0.drew, CC.out _ B0.drew⟩ | exact keepN CC.out ⟨B0.drew, CC.out _ B0.drew⟩ b9 | exact keepN CC.out (by assumption) b9) ((first | (go_at_call 21; refine (pnumber_is _ _ _ _ (by omega) (by omega) (by first | exact h1.out | exact h2.out)).mono ?_; rintro e w9 ⟨rfl, b9⟩)))
  rename_i hH
  go_wp2_with fail
  go_ret
  exact ⟨rfl, chain bb hH.1⟩
set_option maxHeartbeats 3200000 in
set_option maxRecDepth 20000 in
theorem fields_Rotate  (w : World)  :
    Calls Try.prog 122 #[.agg #[]] w fun e w' => e = .returned (.string ((⟨#[]⟩ : ByteArray))) ∧ Below w.heap.size w w' := by
  go_enter Try.func122, Try.ntmps122
  go_wp2_with fail
  go_ret
  exact ⟨rfl, (Below.refl _ _).alloc (Nat.le_refl _) _⟩
end Go.Proofs.Ytemhlhcaahaecaa
