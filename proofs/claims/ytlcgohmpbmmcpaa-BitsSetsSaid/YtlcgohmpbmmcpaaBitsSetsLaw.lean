import Derived.Test.YtlcgohmpbmmcpaaRefWith
import Derived.Test.YtlcgohmpbmmcpaaEx08
namespace Go.Proofs.Ytlcgohmpbmmcpaa
open Go.RowKit
set_option linter.unusedVariables false

set_option maxHeartbeats 1600000 in
theorem bitsSets_bf (b c y z : ByteArray) (i n p : Int) (on k v : Bool) (w : World) (hb : b.size ≤ 140737488351232) (i1 : i ≤ 9223372036854775807) (n0 : -9223372036854775808 ≤ n) (n1 : n ≤ 9223372036854775807) (hc : Hid (b.extract 0 2000 = c)) (hcs : c.size ≤ 2000) (hbb : 2000 < (b.size : Int)) (hn : 3000 < n)
    (FN : Hid (firstN c n = p)) (FK : Hid (firstK c n = k)) (HV : Hid (hasB c i = v)) (WY : Hid (withB c i on = y)) (NZ : Hid (Str (List.replicate (newN 3000) 0) = z)) :
    Calls Try.prog 3 #[.string b, .int .i64 i, .bool on, .int .i64 n] w fun e w' => e = .returned (.bool true) ∧ Below w.heap.size w w' := by
  go_enter Try.func3, Try.ntmps3
  try simp only [List.append_eq, List.cons_append, List.nil_append]
  go_wp2_with fail
  refine (examples_any _).mono ?_
  rintro e w1 ⟨rfl, bb⟩
  go_wp2_with fail
  rw [hc.out]
  refine (first_any _ _ _ (by omega) (by omega) (by omega)).mono ?_
  rw [FN.out, FK.out]
  rintro e w9 ⟨rfl, rfl⟩
  go_wp2_with fail
  refine (refFirst_any _ _ _ (by omega) (by omega) (by omega)).mono ?_
  rw [FN.out, FK.out]
  rintro e w9 ⟨rfl, rfl⟩
  go_wp2_with fail
  refine (has_any _ _ _ (by omega)).mono ?_
  rw [HV.out]
  rintro e w9 ⟨rfl, rfl⟩
  go_wp2_with fail
  refine (refHas_any _ _ _ (by omega)).mono ?_
  rw [HV.out]
  rintro e w9 ⟨rfl, rfl⟩
  go_wp2_with fail
  refine (with_any _ _ _ _ (by omega)).mono ?_
  rw [WY.out]
  rintro e w9 ⟨rfl, b9⟩
  replace bb := chain bb b9
  clear b9
  go_wp2_with fail
  refine (refWith_any _ _ _ _ (by omega)).mono ?_
  rw [WY.out]
  rintro e w9 ⟨rfl, b9⟩
  replace bb := chain bb b9
  clear b9
  go_wp2_with fail
  refine (new_any _ _ (by omega) (by omega)).mono ?_
  rw [NZ.out]
  rintro e w9 ⟨rfl, b9⟩
  replace bb := chain bb b9
  clear b9
  go_wp2_with fail
  refine (refNew_any _ _ (by omega) (by omega)).mono ?_
  rw [NZ.out]
  rintro e w9 ⟨rfl, b9⟩
  replace bb := chain bb b9
  clear b9
  go_wp2_with fail
  go_ret
  refine ⟨ret_true ?_, bb⟩
  first | (simp; done) | (simp; omega)
set_option maxHeartbeats 1600000 in
theorem bitsSets_bn (b c y z : ByteArray) (i n p : Int) (on k v : Bool) (w : World) (hb : b.size ≤ 140737488351232) (i1 : i ≤ 9223372036854775807) (n0 : -9223372036854775808 ≤ n) (n1 : n ≤ 9223372036854775807) (hc : Hid (b.extract 0 2000 = c)) (hcs : c.size ≤ 2000) (hbb : 2000 < (b.size : Int)) (hn : n ≤ 3000)
    (FN : Hid (firstN c n = p)) (FK : Hid (firstK c n = k)) (HV : Hid (hasB c i = v)) (WY : Hid (withB c i on = y)) (NZ : Hid (Str (List.replicate (newN n) 0) = z)) :
    Calls Try.prog 3 #[.string b, .int .i64 i, .bool on, .int .i64 n] w fun e w' => e = .returned (.bool true) ∧ Below w.heap.size w w' := by
  go_enter Try.func3, Try.ntmps3
  try simp only [List.append_eq, List.cons_append, List.nil_append]
  go_wp2_with fail
  refine (examples_any _).mono ?_
  rintro e w1 ⟨rfl, bb⟩
  go_wp2_with fail
  rw [hc.out]
  refine (first_any _ _ _ (by omega) (by omega) (by omega)).mono ?_
  rw [FN.out, FK.out]
  rintro e w9 ⟨rfl, rfl⟩
  go_wp2_with fail
  refine (refFirst_any _ _ _ (by omega) (by omega) (by omega)).mono ?_
  rw [FN.out, FK.out]
  rintro e w9 ⟨rfl, rfl⟩
  go_wp2_with fail
  refine (has_any _ _ _ (by omega)).mono ?_
  rw [HV.out]
  rintro e w9 ⟨rfl, rfl⟩
  go_wp2_with fail
  refine (refHas_any _ _ _ (by omega)).mono ?_
  rw [HV.out]
  rintro e w9 ⟨rfl, rfl⟩
  go_wp2_with fail
  refine (with_any _ _ _ _ (by omega)).mono ?_
  rw [WY.out]
  rintro e w9 ⟨rfl, b9⟩
  replace bb := chain bb b9
  clear b9
  go_wp2_with fail
  refine (refWith_any _ _ _ _ (by omega)).mono ?_
  rw [WY.out]
  rintro e w9 ⟨rfl, b9⟩
  replace bb := chain bb b9
  clear b9
  go_wp2_with fail
  refine (new_any _ _ (by omega) (by omega)).mono ?_
  rw [NZ.out]
  rintro e w9 ⟨rfl, b9⟩
  replace bb := chain bb b9
  clear b9
  go_wp2_with fail
  refine (refNew_any _ _ (by omega) (by omega)).mono ?_
  rw [NZ.out]
  rintro e w9 ⟨rfl, b9⟩
  replace bb := chain bb b9
  clear b9
  go_wp2_with fail
  go_ret
  refine ⟨ret_true ?_, bb⟩
  first | (simp; done) | (simp; omega)
set_option maxHeartbeats 1600000 in
theorem bitsSets_sf (b c y z : ByteArray) (i n p : Int) (on k v : Bool) (w : World) (hb : b.size ≤ 140737488351232) (i1 : i ≤ 9223372036854775807) (n0 : -9223372036854775808 ≤ n) (n1 : n ≤ 9223372036854775807) (hbb : (b.size : Int) ≤ 2000) (hn : 3000 < n)
    (FN : Hid (firstN b n = p)) (FK : Hid (firstK b n = k)) (HV : Hid (hasB b i = v)) (WY : Hid (withB b i on = y)) (NZ : Hid (Str (List.replicate (newN 3000) 0) = z)) :
    Calls Try.prog 3 #[.string b, .int .i64 i, .bool on, .int .i64 n] w fun e w' => e = .returned (.bool true) ∧ Below w.heap.size w w' := by
  go_enter Try.func3, Try.ntmps3
  try simp only [List.append_eq, List.cons_append, List.nil_append]
  go_wp2_with fail
  refine (examples_any _).mono ?_
  rintro e w1 ⟨rfl, bb⟩
  go_wp2_with fail
  refine (first_any _ _ _ (by omega) (by omega) (by omega)).mono ?_
  rw [FN.out, FK.out]
  rintro e w9 ⟨rfl, rfl⟩
  go_wp2_with fail
  refine (refFirst_any _ _ _ (by omega) (by omega) (by omega)).mono ?_
  rw [FN.out, FK.out]
  rintro e w9 ⟨rfl, rfl⟩
  go_wp2_with fail
  refine (has_any _ _ _ (by omega)).mono ?_
  rw [HV.out]
  rintro e w9 ⟨rfl, rfl⟩
  go_wp2_with fail
  refine (refHas_any _ _ _ (by omega)).mono ?_
  rw [HV.out]
  rintro e w9 ⟨rfl, rfl⟩
  go_wp2_with fail
  refine (with_any _ _ _ _ (by omega)).mono ?_
  rw [WY.out]
  rintro e w9 ⟨rfl, b9⟩
  replace bb := chain bb b9
  clear b9
  go_wp2_with fail
  refine (refWith_any _ _ _ _ (by omega)).mono ?_
  rw [WY.out]
  rintro e w9 ⟨rfl, b9⟩
  replace bb := chain bb b9
  clear b9
  go_wp2_with fail
  refine (new_any _ _ (by omega) (by omega)).mono ?_
  rw [NZ.out]
  rintro e w9 ⟨rfl, b9⟩
  replace bb := chain bb b9
  clear b9
  go_wp2_with fail
  refine (refNew_any _ _ (by omega) (by omega)).mono ?_
  rw [NZ.out]
  rintro e w9 ⟨rfl, b9⟩
  replace bb := chain bb b9
  clear b9
  go_wp2_with fail
  go_ret
  refine ⟨ret_true ?_, bb⟩
  first | (simp; done) | (simp; omega)
set_option maxHeartbeats 1600000 in
theorem bitsSets_sn (b c y z : ByteArray) (i n p : Int) (on k v : Bool) (w : World) (hb : b.size ≤ 140737488351232) (i1 : i ≤ 9223372036854775807) (n0 : -9223372036854775808 ≤ n) (n1 : n ≤ 9223372036854775807) (hbb : (b.size : Int) ≤ 2000) (hn : n ≤ 3000)
    (FN : Hid (firstN b n = p)) (FK : Hid (firstK b n = k)) (HV : Hid (hasB b i = v)) (WY : Hid (withB b i on = y)) (NZ : Hid (Str (List.replicate (newN n) 0) = z)) :
    Calls Try.prog 3 #[.string b, .int .i64 i, .bool on, .int .i64 n] w fun e w' => e = .returned (.bool true) ∧ Below w.heap.size w w' := by
  go_enter Try.func3, Try.ntmps3
  try simp only [List.append_eq, List.cons_append, List.nil_append]
  go_wp2_with fail
  refine (examples_any _).mono ?_
  rintro e w1 ⟨rfl, bb⟩
  go_wp2_with fail
  refine (first_any _ _ _ (by omega) (by omega) (by omega)).mono ?_
  rw [FN.out, FK.out]
  rintro e w9 ⟨rfl, rfl⟩
  go_wp2_with fail
  refine (refFirst_any _ _ _ (by omega) (by omega) (by omega)).mono ?_
  rw [FN.out, FK.out]
  rintro e w9 ⟨rfl, rfl⟩
  go_wp2_with fail
  refine (has_any _ _ _ (by omega)).mono ?_
  rw [HV.out]
  rintro e w9 ⟨rfl, rfl⟩
  go_wp2_with fail
  refine (refHas_any _ _ _ (by omega)).mono ?_
  rw [HV.out]
  rintro e w9 ⟨rfl, rfl⟩
  go_wp2_with fail
  refine (with_any _ _ _ _ (by omega)).mono ?_
  rw [WY.out]
  rintro e w9 ⟨rfl, b9⟩
  replace bb := chain bb b9
  clear b9
  go_wp2_with fail
  refine (refWith_any _ _ _ _ (by omega)).mono ?_
  rw [WY.out]
  rintro e w9 ⟨rfl, b9⟩
  replace bb := chain bb b9
  clear b9
  go_wp2_with fail
  refine (new_any _ _ (by omega) (by omega)).mono ?_
  rw [NZ.out]
  rintro e w9 ⟨rfl, b9⟩
  replace bb := chain bb b9
  clear b9
  go_wp2_with fail
  refine (refNew_any _ _ (by omega) (by omega)).mono ?_
  rw [NZ.out]
  rintro e w9 ⟨rfl, b9⟩
  replace bb := chain bb b9
  clear b9
  go_wp2_with fail
  go_ret
  refine ⟨ret_true ?_, bb⟩
  first | (simp; done) | (simp; omega)
theorem bitsSets_law (a0 : ByteArray) (a1 : Int) (a2 : Bool) (a3 : Int) (w : World) (z0 : a0.size ≤ 140737488351232) (w1 : (Lit.int .i64 a1).wf = true) (w3 : (Lit.int .i64 a3).wf = true) :
    Calls Try.prog 3 #[.string a0, .int .i64 a1, .bool a2, .int .i64 a3] w fun e w' => e = .returned (.bool true) ∧ Below w.heap.size w w' := by
  have h1 := bounds_i64 w1
  have h3 := bounds_i64 w3
  have hz : (a0.extract 0 2000).size ≤ 2000 := by rw [ByteArray.size_extract]; omega
  rcases Int.lt_or_le 2000 (a0.size : Int) with hs | hs <;> rcases Int.lt_or_le 3000 a3 with hn | hn
  · exact bitsSets_bf a0 _ _ _ a1 a3 _ a2 _ _ w z0 (by omega) h3.1 (by omega) (Lib.hid rfl) hz hs hn (Lib.hid rfl) (Lib.hid rfl) (Lib.hid rfl) (Lib.hid rfl) (Lib.hid rfl)
  · exact bitsSets_bn a0 _ _ _ a1 a3 _ a2 _ _ w z0 (by omega) h3.1 (by omega) (Lib.hid rfl) hz hs hn (Lib.hid rfl) (Lib.hid rfl) (Lib.hid rfl) (Lib.hid rfl) (Lib.hid rfl)
  · exact bitsSets_sf a0 a0 _ _ a1 a3 _ a2 _ _ w z0 (by omega) h3.1 (by omega) hs hn (Lib.hid rfl) (Lib.hid rfl) (Lib.hid rfl) (Lib.hid rfl) (Lib.hid rfl)
  · exact bitsSets_sn a0 a0 _ _ a1 a3 _ a2 _ _ w z0 (by omega) h3.1 (by omega) hs hn (Lib.hid rfl) (Lib.hid rfl) (Lib.hid rfl) (Lib.hid rfl) (Lib.hid rfl)
end Go.Proofs.Ytlcgohmpbmmcpaa
