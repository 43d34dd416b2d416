/-
  Package proto: each request is read, whatever the bytes are.
-/
import Derived.Test.YtemhlhcaahaecaaProtoRead
import Derived.Test.YtemhlhcaahaecaaProtoAll
namespace Go.Proofs.Ytemhlhcaahaecaa
open Go.RowKit
set_option linter.unusedVariables false
set_option linter.unusedSimpArgs false
theorem hdR_size2 (s : ByteArray) : (hdR s).size ≤ s.size := by unfold hdR; rw [ByteArray.size_extract]; omega
set_option maxHeartbeats 1600000 in
set_option maxRecDepth 20000 in
theorem request_Hello (g : Nat) (s0 s1 : ByteArray) (nm : ByteArray) (w : World) (h : RD w g s0) (hs : s0.size ≤ 9223372036854775807) (h0 : Hid (ttS s0 = nm)) (r0 : Hid (ttR s0 = s1)) :
    Calls Try.prog 31 #[.pointer (some ⟨g, 0, none⟩), .int .i64 1] w fun e w' => e = .returned (.iface 64 (.agg #[.string nm])) ∧ Below g w w' := by
  have FF := Lib.hid h
  clear h
  have z1 : s1.size ≤ 9223372036854775807 := by have := ttR_size2 s0; rw [r0.out] at this; omega
  go_enter Try.func31, Try.ntmps31
  go_wp2_with fail
  refine (rtext_is g _ _ _ _ FF.out hs h0 r0).mono ?_
  rintro e w1 ⟨rfl, f1, b1⟩
  have F1 := Lib.hid f1
  replace FF := F1
  have B := Lib.hid (b1)
  clear f1 b1
  go_wp2_with fail
  go_ret
  exact ⟨rfl, B.out⟩
set_option maxHeartbeats 1600000 in
set_option maxRecDepth 20000 in
theorem request_Register (g : Nat) (s0 s1 s2 : ByteArray) (nm : ByteArray) (li : Int) (w : World) (h : RD w g s0) (hs : s0.size ≤ 9223372036854775807) (h0 : Hid (ttS s0 = nm)) (r0 : Hid (ttR s0 = s1)) (h1 : Hid (takeN s1 2 = li)) (r1 : Hid (takeR s1 2 = s2)) :
    Calls Try.prog 31 #[.pointer (some ⟨g, 0, none⟩), .int .i64 2] w fun e w' => e = .returned (.iface 51 (.agg #[.string nm, .int .i64 li])) ∧ Below g w w' := by
  have FF := Lib.hid h
  clear h
  have z1 : s1.size ≤ 9223372036854775807 := by have := ttR_size2 s0; rw [r0.out] at this; omega
  have z2 : s2.size ≤ 9223372036854775807 := by have := takeR_size2 s1 2; rw [r1.out] at this; omega
  go_enter Try.func31, Try.ntmps31
  go_wp2_with fail
  refine (rtext_is g _ _ _ _ FF.out hs h0 r0).mono ?_
  rintro e w1 ⟨rfl, f1, b1⟩
  have F1 := Lib.hid f1
  replace FF := F1
  have B := Lib.hid (b1)
  clear f1 b1
  go_wp2_with fail
  refine (rnumber_is g _ 2 _ _ _ FF.out (by decide) h1 r1).mono ?_
  rintro e w2 ⟨rfl, f1, b2⟩
  replace F1 := Lib.hid f1
  replace FF := F1
  replace B := Lib.hid (B.out.trans b2)
  clear f1 b2
  go_wp2_with fail
  go_ret
  exact ⟨rfl, B.out⟩
set_option maxHeartbeats 1600000 in
set_option maxRecDepth 20000 in
theorem request_Mint (g : Nat) (s0 s1 s2 s3 s4 : ByteArray) (ob : Int) (ri : Int) (ba : Int) (ex : Int) (w : World) (h : RD w g s0) (hs : s0.size ≤ 9223372036854775807) (h0 : Hid (takeN s0 3 = ob)) (r0 : Hid (takeR s0 3 = s1)) (h1 : Hid (parN (ttS s1) = ri)) (r1 : Hid (ttR s1 = s2)) (h2 : Hid (takeN s2 4 = ba)) (r2 : Hid (takeR s2 4 = s3)) (h3 : Hid (takeN s3 4 = ex)) (r3 : Hid (takeR s3 4 = s4)) :
    Calls Try.prog 31 #[.pointer (some ⟨g, 0, none⟩), .int .i64 3] w fun e w' => e = .returned (.iface 53 (.agg #[.int .i64 ob, .int .i64 ri, .int .i64 ba, .int .i64 ex])) ∧ Below g w w' := by
  have FF := Lib.hid h
  clear h
  have z1 : s1.size ≤ 9223372036854775807 := by have := takeR_size2 s0 3; rw [r0.out] at this; omega
  have z2 : s2.size ≤ 9223372036854775807 := by have := ttR_size2 s1; rw [r1.out] at this; omega
  have z3 : s3.size ≤ 9223372036854775807 := by have := takeR_size2 s2 4; rw [r2.out] at this; omega
  have z4 : s4.size ≤ 9223372036854775807 := by have := takeR_size2 s3 4; rw [r3.out] at this; omega
  go_enter Try.func31, Try.ntmps31
  go_wp2_with fail
  refine (rnumber_is g _ 3 _ _ _ FF.out (by decide) h0 r0).mono ?_
  rintro e w1 ⟨rfl, f1, b1⟩
  have F1 := Lib.hid f1
  replace FF := F1
  have B := Lib.hid (b1)
  clear f1 b1
  go_wp2_with fail
  refine (rletters_is g _ _ _ _ FF.out z1 h1 r1).mono ?_
  rintro e w2 ⟨rfl, f1, b2⟩
  replace F1 := Lib.hid f1
  replace FF := F1
  replace B := Lib.hid (B.out.trans b2)
  clear f1 b2
  go_wp2_with fail
  refine (rnumber_is g _ 4 _ _ _ FF.out (by decide) h2 r2).mono ?_
  rintro e w3 ⟨rfl, f1, b3⟩
  replace F1 := Lib.hid f1
  replace FF := F1
  replace B := Lib.hid (B.out.trans b3)
  clear f1 b3
  go_wp2_with fail
  refine (rnumber_is g _ 4 _ _ _ FF.out (by decide) h3 r3).mono ?_
  rintro e w4 ⟨rfl, f1, b4⟩
  replace F1 := Lib.hid f1
  replace FF := F1
  replace B := Lib.hid (B.out.trans b4)
  clear f1 b4
  go_wp2_with fail
  go_ret
  exact ⟨rfl, B.out⟩
set_option maxHeartbeats 1600000 in
set_option maxRecDepth 20000 in
theorem request_Derive (g : Nat) (s0 s1 s2 s3 s4 s5 : ByteArray) (hd : ByteArray) (nm : ByteArray) (ri : Int) (ba : Int) (ex : Int) (w : World) (h : RD w g s0) (hs : s0.size ≤ 9223372036854775807) (h0 : Hid (hdS s0 = hd)) (r0 : Hid (hdR s0 = s1)) (h1 : Hid (ttS s1 = nm)) (r1 : Hid (ttR s1 = s2)) (h2 : Hid (parN (ttS s2) = ri)) (r2 : Hid (ttR s2 = s3)) (h3 : Hid (takeN s3 4 = ba)) (r3 : Hid (takeR s3 4 = s4)) (h4 : Hid (takeN s4 4 = ex)) (r4 : Hid (takeR s4 4 = s5)) :
    Calls Try.prog 31 #[.pointer (some ⟨g, 0, none⟩), .int .i64 4] w fun e w' => e = .returned (.iface 83 (.agg #[.string hd, .string nm, .int .i64 ri, .int .i64 ba, .int .i64 ex])) ∧ Below g w w' := by
  have FF := Lib.hid h
  clear h
  have z1 : s1.size ≤ 9223372036854775807 := by have := hdR_size2 s0; rw [r0.out] at this; omega
  have z2 : s2.size ≤ 9223372036854775807 := by have := ttR_size2 s1; rw [r1.out] at this; omega
  have z3 : s3.size ≤ 9223372036854775807 := by have := ttR_size2 s2; rw [r2.out] at this; omega
  have z4 : s4.size ≤ 9223372036854775807 := by have := takeR_size2 s3 4; rw [r3.out] at this; omega
  have z5 : s5.size ≤ 9223372036854775807 := by have := takeR_size2 s4 4; rw [r4.out] at this; omega
  go_enter Try.func31, Try.ntmps31
  go_wp2_with fail
  refine (rhandle_is g _ _ _ _ FF.out hs h0 r0).mono ?_
  rintro e w1 ⟨rfl, f1, b1⟩
  have F1 := Lib.hid f1
  replace FF := F1
  have B := Lib.hid (b1)
  clear f1 b1
  go_wp2_with fail
  refine (rtext_is g _ _ _ _ FF.out z1 h1 r1).mono ?_
  rintro e w2 ⟨rfl, f1, b2⟩
  replace F1 := Lib.hid f1
  replace FF := F1
  replace B := Lib.hid (B.out.trans b2)
  clear f1 b2
  go_wp2_with fail
  refine (rletters_is g _ _ _ _ FF.out z2 h2 r2).mono ?_
  rintro e w3 ⟨rfl, f1, b3⟩
  replace F1 := Lib.hid f1
  replace FF := F1
  replace B := Lib.hid (B.out.trans b3)
  clear f1 b3
  go_wp2_with fail
  refine (rnumber_is g _ 4 _ _ _ FF.out (by decide) h3 r3).mono ?_
  rintro e w4 ⟨rfl, f1, b4⟩
  replace F1 := Lib.hid f1
  replace FF := F1
  replace B := Lib.hid (B.out.trans b4)
  clear f1 b4
  go_wp2_with fail
  refine (rnumber_is g _ 4 _ _ _ FF.out (by decide) h4 r4).mono ?_
  rintro e w5 ⟨rfl, f1, b5⟩
  replace F1 := Lib.hid f1
  replace FF := F1
  replace B := Lib.hid (B.out.trans b5)
  clear f1 b5
  go_wp2_with fail
  go_ret
  exact ⟨rfl, B.out⟩
set_option maxHeartbeats 1600000 in
set_option maxRecDepth 20000 in
theorem request_Renew (g : Nat) (s0 s1 s2 : ByteArray) (hd : ByteArray) (ex : Int) (w : World) (h : RD w g s0) (hs : s0.size ≤ 9223372036854775807) (h0 : Hid (hdS s0 = hd)) (r0 : Hid (hdR s0 = s1)) (h1 : Hid (takeN s1 4 = ex)) (r1 : Hid (takeR s1 4 = s2)) :
    Calls Try.prog 31 #[.pointer (some ⟨g, 0, none⟩), .int .i64 5] w fun e w' => e = .returned (.iface 62 (.agg #[.string hd, .int .i64 ex])) ∧ Below g w w' := by
  have FF := Lib.hid h
  clear h
  have z1 : s1.size ≤ 9223372036854775807 := by have := hdR_size2 s0; rw [r0.out] at this; omega
  have z2 : s2.size ≤ 9223372036854775807 := by have := takeR_size2 s1 4; rw [r1.out] at this; omega
  go_enter Try.func31, Try.ntmps31
  go_wp2_with fail
  refine (rhandle_is g _ _ _ _ FF.out hs h0 r0).mono ?_
  rintro e w1 ⟨rfl, f1, b1⟩
  have F1 := Lib.hid f1
  replace FF := F1
  have B := Lib.hid (b1)
  clear f1 b1
  go_wp2_with fail
  refine (rnumber_is g _ 4 _ _ _ FF.out (by decide) h1 r1).mono ?_
  rintro e w2 ⟨rfl, f1, b2⟩
  replace F1 := Lib.hid f1
  replace FF := F1
  replace B := Lib.hid (B.out.trans b2)
  clear f1 b2
  go_wp2_with fail
  go_ret
  exact ⟨rfl, B.out⟩
set_option maxHeartbeats 1600000 in
set_option maxRecDepth 20000 in
theorem request_Validate (g : Nat) (s0 s1 : ByteArray) (hd : ByteArray) (w : World) (h : RD w g s0) (hs : s0.size ≤ 9223372036854775807) (h0 : Hid (hdS s0 = hd)) (r0 : Hid (hdR s0 = s1)) :
    Calls Try.prog 31 #[.pointer (some ⟨g, 0, none⟩), .int .i64 6] w fun e w' => e = .returned (.iface 55 (.agg #[.string hd])) ∧ Below g w w' := by
  have FF := Lib.hid h
  clear h
  have z1 : s1.size ≤ 9223372036854775807 := by have := hdR_size2 s0; rw [r0.out] at this; omega
  go_enter Try.func31, Try.ntmps31
  go_wp2_with fail
  refine (rhandle_is g _ _ _ _ FF.out hs h0 r0).mono ?_
  rintro e w1 ⟨rfl, f1, b1⟩
  have F1 := Lib.hid f1
  replace FF := F1
  have B := Lib.hid (b1)
  clear f1 b1
  go_wp2_with fail
  go_ret
  exact ⟨rfl, B.out⟩
set_option maxHeartbeats 1600000 in
set_option maxRecDepth 20000 in
theorem request_Invoke (g : Nat) (s0 s1 s2 : ByteArray) (hd : ByteArray) (rt : Int) (w : World) (h : RD w g s0) (hs : s0.size ≤ 9223372036854775807) (h0 : Hid (hdS s0 = hd)) (r0 : Hid (hdR s0 = s1)) (h1 : Hid (ltr (ttS s1) = rt)) (r1 : Hid (ttR s1 = s2)) :
    Calls Try.prog 31 #[.pointer (some ⟨g, 0, none⟩), .int .i64 7] w fun e w' => e = .returned (.iface 58 (.agg #[.string hd, .int .i32 rt])) ∧ Below g w w' := by
  have FF := Lib.hid h
  clear h
  have z1 : s1.size ≤ 9223372036854775807 := by have := hdR_size2 s0; rw [r0.out] at this; omega
  have z2 : s2.size ≤ 9223372036854775807 := by have := ttR_size2 s1; rw [r1.out] at this; omega
  go_enter Try.func31, Try.ntmps31
  go_wp2_with fail
  refine (rhandle_is g _ _ _ _ FF.out hs h0 r0).mono ?_
  rintro e w1 ⟨rfl, f1, b1⟩
  have F1 := Lib.hid f1
  replace FF := F1
  have B := Lib.hid (b1)
  clear f1 b1
  go_wp2_with fail
  refine (rletter_is g _ _ _ _ _ FF.out z1 (Lib.hid rfl) h1 r1).mono ?_
  rintro e w2 ⟨rfl, f1, b2⟩
  replace F1 := Lib.hid f1
  replace FF := F1
  replace B := Lib.hid (B.out.trans b2)
  clear f1 b2
  go_wp2_with fail
  go_ret
  exact ⟨rfl, B.out⟩
set_option maxHeartbeats 1600000 in
set_option maxRecDepth 20000 in
theorem request_Revoke (g : Nat) (s0 s1 s2 : ByteArray) (hd : ByteArray) (y : Int) (w : World) (h : RD w g s0) (hs : s0.size ≤ 9223372036854775807) (h0 : Hid (hdS s0 = hd)) (r0 : Hid (hdR s0 = s1)) (h1 : Hid (takeN s1 1 = y)) (r1 : Hid (takeR s1 1 = s2)) :
    Calls Try.prog 31 #[.pointer (some ⟨g, 0, none⟩), .int .i64 8] w fun e w' => e = .returned (.iface 85 (.agg #[.string hd, .bool (y == 1)])) ∧ Below g w w' := by
  have FF := Lib.hid h
  clear h
  have z1 : s1.size ≤ 9223372036854775807 := by have := hdR_size2 s0; rw [r0.out] at this; omega
  have z2 : s2.size ≤ 9223372036854775807 := by have := takeR_size2 s1 1; rw [r1.out] at this; omega
  go_enter Try.func31, Try.ntmps31
  go_wp2_with fail
  refine (rhandle_is g _ _ _ _ FF.out hs h0 r0).mono ?_
  rintro e w1 ⟨rfl, f1, b1⟩
  have F1 := Lib.hid f1
  replace FF := F1
  have B := Lib.hid (b1)
  clear f1 b1
  go_wp2_with fail
  refine (rnumber_is g _ 1 _ _ _ FF.out (by decide) h1 r1).mono ?_
  rintro e w2 ⟨rfl, f1, b2⟩
  replace F1 := Lib.hid f1
  replace FF := F1
  replace B := Lib.hid (B.out.trans b2)
  clear f1 b2
  go_wp2_with fail
  go_ret
  exact ⟨rfl, B.out⟩
set_option maxHeartbeats 1600000 in
set_option maxRecDepth 20000 in
theorem request_Delete (g : Nat) (s0 s1 : ByteArray) (hd : ByteArray) (w : World) (h : RD w g s0) (hs : s0.size ≤ 9223372036854775807) (h0 : Hid (hdS s0 = hd)) (r0 : Hid (hdR s0 = s1)) :
    Calls Try.prog 31 #[.pointer (some ⟨g, 0, none⟩), .int .i64 9] w fun e w' => e = .returned (.iface 86 (.agg #[.string hd])) ∧ Below g w w' := by
  have FF := Lib.hid h
  clear h
  have z1 : s1.size ≤ 9223372036854775807 := by have := hdR_size2 s0; rw [r0.out] at this; omega
  go_enter Try.func31, Try.ntmps31
  go_wp2_with fail
  refine (rhandle_is g _ _ _ _ FF.out hs h0 r0).mono ?_
  rintro e w1 ⟨rfl, f1, b1⟩
  have F1 := Lib.hid f1
  replace FF := F1
  have B := Lib.hid (b1)
  clear f1 b1
  go_wp2_with fail
  go_ret
  exact ⟨rfl, B.out⟩
set_option maxHeartbeats 1600000 in
set_option maxRecDepth 20000 in
theorem request_Move (g : Nat) (s0 s1 s2 : ByteArray) (hd : ByteArray) (to : ByteArray) (w : World) (h : RD w g s0) (hs : s0.size ≤ 9223372036854775807) (h0 : Hid (hdS s0 = hd)) (r0 : Hid (hdR s0 = s1)) (h1 : Hid (hdS s1 = to)) (r1 : Hid (hdR s1 = s2)) :
    Calls Try.prog 31 #[.pointer (some ⟨g, 0, none⟩), .int .i64 10] w fun e w' => e = .returned (.iface 88 (.agg #[.string hd, .string to])) ∧ Below g w w' := by
  have FF := Lib.hid h
  clear h
  have z1 : s1.size ≤ 9223372036854775807 := by have := hdR_size2 s0; rw [r0.out] at this; omega
  have z2 : s2.size ≤ 9223372036854775807 := by have := hdR_size2 s1; rw [r1.out] at this; omega
  go_enter Try.func31, Try.ntmps31
  go_wp2_with fail
  refine (rhandle_is g _ _ _ _ FF.out hs h0 r0).mono ?_
  rintro e w1 ⟨rfl, f1, b1⟩
  have F1 := Lib.hid f1
  replace FF := F1
  have B := Lib.hid (b1)
  clear f1 b1
  go_wp2_with fail
  refine (rhandle_is g _ _ _ _ FF.out z1 h1 r1).mono ?_
  rintro e w2 ⟨rfl, f1, b2⟩
  replace F1 := Lib.hid f1
  replace FF := F1
  replace B := Lib.hid (B.out.trans b2)
  clear f1 b2
  go_wp2_with fail
  go_ret
  exact ⟨rfl, B.out⟩
set_option maxHeartbeats 1600000 in
set_option maxRecDepth 20000 in
theorem request_List (g : Nat) (s0 s1 s2 s3 : ByteArray) (hd : ByteArray) (fr : Int) (mo : Int) (w : World) (h : RD w g s0) (hs : s0.size ≤ 9223372036854775807) (h0 : Hid (hdS s0 = hd)) (r0 : Hid (hdR s0 = s1)) (h1 : Hid (takeN s1 3 = fr)) (r1 : Hid (takeR s1 3 = s2)) (h2 : Hid (takeN s2 1 = mo)) (r2 : Hid (takeR s2 1 = s3)) :
    Calls Try.prog 31 #[.pointer (some ⟨g, 0, none⟩), .int .i64 11] w fun e w' => e = .returned (.iface 60 (.agg #[.string hd, .int .i64 fr, .int .i64 mo])) ∧ Below g w w' := by
  have FF := Lib.hid h
  clear h
  have z1 : s1.size ≤ 9223372036854775807 := by have := hdR_size2 s0; rw [r0.out] at this; omega
  have z2 : s2.size ≤ 9223372036854775807 := by have := takeR_size2 s1 3; rw [r1.out] at this; omega
  have z3 : s3.size ≤ 9223372036854775807 := by have := takeR_size2 s2 1; rw [r2.out] at this; omega
  go_enter Try.func31, Try.ntmps31
  go_wp2_with fail
  refine (rhandle_is g _ _ _ _ FF.out hs h0 r0).mono ?_
  rintro e w1 ⟨rfl, f1, b1⟩
  have F1 := Lib.hid f1
  replace FF := F1
  have B := Lib.hid (b1)
  clear f1 b1
  go_wp2_with fail
  refine (rnumber_is g _ 3 _ _ _ FF.out (by decide) h1 r1).mono ?_
  rintro e w2 ⟨rfl, f1, b2⟩
  replace F1 := Lib.hid f1
  replace FF := F1
  replace B := Lib.hid (B.out.trans b2)
  clear f1 b2
  go_wp2_with fail
  refine (rnumber_is g _ 1 _ _ _ FF.out (by decide) h2 r2).mono ?_
  rintro e w3 ⟨rfl, f1, b3⟩
  replace F1 := Lib.hid f1
  replace FF := F1
  replace B := Lib.hid (B.out.trans b3)
  clear f1 b3
  go_wp2_with fail
  go_ret
  exact ⟨rfl, B.out⟩
set_option maxHeartbeats 1600000 in
set_option maxRecDepth 20000 in
theorem request_Quota (g : Nat) (s0 : ByteArray)  (w : World) (h : RD w g s0) (hs : s0.size ≤ 9223372036854775807) :
    Calls Try.prog 31 #[.pointer (some ⟨g, 0, none⟩), .int .i64 12] w fun e w' => e = .returned (.iface 68 (.agg #[])) ∧ Below g w w' := by
  have FF := Lib.hid h
  clear h
  go_enter Try.func31, Try.ntmps31
  go_wp2_with fail
  go_ret
  exact ⟨rfl, Below.refl _ _⟩
set_option maxHeartbeats 1600000 in
set_option maxRecDepth 20000 in
theorem request_Rotate (g : Nat) (s0 : ByteArray)  (w : World) (h : RD w g s0) (hs : s0.size ≤ 9223372036854775807) :
    Calls Try.prog 31 #[.pointer (some ⟨g, 0, none⟩), .int .i64 13] w fun e w' => e = .returned (.iface 89 (.agg #[])) ∧ Below g w w' := by
  have FF := Lib.hid h
  clear h
  go_enter Try.func31, Try.ntmps31
  go_wp2_with fail
  go_ret
  exact ⟨rfl, Below.refl _ _⟩
set_option maxHeartbeats 1600000 in
set_option maxRecDepth 20000 in
theorem request_none (a : Option Addr) (k : Int) (w : World) (h : k < 1 ∨ 13 < k) :
    Calls Try.prog 31 #[.pointer a, .int .i64 k] w fun e w' => e = .returned .nilIface ∧ w = w' := by
  have n1 : (k == 1) = false := by simp; omega
  have n2 : (k == 2) = false := by simp; omega
  have n3 : (k == 3) = false := by simp; omega
  have n4 : (k == 4) = false := by simp; omega
  have n5 : (k == 5) = false := by simp; omega
  have n6 : (k == 6) = false := by simp; omega
  have n7 : (k == 7) = false := by simp; omega
  have n8 : (k == 8) = false := by simp; omega
  have n9 : (k == 9) = false := by simp; omega
  have n10 : (k == 10) = false := by simp; omega
  have n11 : (k == 11) = false := by simp; omega
  have n12 : (k == 12) = false := by simp; omega
  have n13 : (k == 13) = false := by simp; omega
  go_enter Try.func31, Try.ntmps31
  go_wp2_with fail
  go_ret
  exact ⟨rfl, rfl⟩
theorem stray_n : Improper .nilIface := fun w => proper_n w
/-- What Decode answers. -/
def decR (ok : Bool) (id : Int) (v : Value) : Value := if ok = true then .tuple #[.int .i64 id, v, .int .i64 0] else .tuple #[.int .i64 0, .nilIface, .int .i64 2]
set_option maxHeartbeats 1600000 in
set_option maxRecDepth 20000 in
theorem decode_walk (b b1 b2 s0 t : ByteArray) (n0 k id : Int) (v : Value) (ok : Bool) (w : World)
    (h0 : Hid (takeN b 1 = n0)) (r0 : Hid (takeR b 1 = b1)) (h1 : Hid (takeN b1 1 = k)) (r1 : Hid (takeR b1 1 = b2)) (h2 : Hid (takeN b2 4 = id)) (r2 : Hid (takeR b2 4 = s0))
    (RQ : Hid (∀ g w, RD w g s0 → Calls Try.prog 31 #[.pointer (some ⟨g, 0, none⟩), .int .i64 k] w fun e w' => e = .returned v ∧ Below g w w'))
    (E : Hid (∀ w, Calls Try.prog 15 #[.int .i64 id, v] w fun e w' => e = .returned (.tuple #[.string t, .int .i64 (if ok = true then 0 else 1)]) ∧ Below w.heap.size w w')) :
    Calls Try.prog 16 #[.string b] w fun e w' => e = .returned (decR (ok && (t.toList == b.toList)) id v) ∧ Below w.heap.size w w' := by
  go_enter Try.func16, Try.ntmps16
  go_wp2_with fail
  refine (rnumber_is w.heap.size _ 1 _ _ _ (heap_alloc_new _ _) (by decide) h0 r0).mono ?_
  rintro e w1 ⟨rfl, f1, c1⟩
  have F := Lib.hid f1
  have B : Hid (Below w.heap.size w w1) := Lib.hid (((Below.refl _ _).alloc (Nat.le_refl _) _).trans c1)
  clear f1 c1
  go_wp2_with fail
  refine (rnumber_is w.heap.size _ 1 _ _ _ F.out (by decide) h1 r1).mono ?_
  rintro e w2 ⟨rfl, f1, c1⟩
  replace F := Lib.hid f1
  replace B := Lib.hid (B.out.trans c1)
  clear f1 c1
  go_wp2_with fail
  refine (rnumber_is w.heap.size _ 4 _ _ _ F.out (by decide) h2 r2).mono ?_
  rintro e w3 ⟨rfl, f1, c1⟩
  replace F := Lib.hid f1
  replace B := Lib.hid (B.out.trans c1)
  clear f1 c1
  go_wp2_with fail
  refine (RQ.out _ _ F.out).mono ?_
  rintro e w4 ⟨rfl, c1⟩
  replace B := Lib.hid (B.out.trans c1)
  clear c1 F RQ
  go_wp2_with fail
  refine (E.out _).mono ?_
  rintro e w5 ⟨rfl, c1⟩
  replace B := Lib.hid (chain B.out c1)
  clear c1 E
  cases ok
  · go_wp2_with fail
    go_ret3
    exact ⟨rfl, B.out⟩
  · cases hq : (t.toList == b.toList)
    all_goals
      have HQ := Lib.hid hq
      go_wp2_with fail
      go_ret3
      exact ⟨by rw [HQ.out]; rfl, B.out⟩
end Go.Proofs.Ytemhlhcaahaecaa
