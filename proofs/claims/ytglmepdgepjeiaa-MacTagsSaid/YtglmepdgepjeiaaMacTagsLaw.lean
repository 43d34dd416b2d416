import Derived.Test.YtglmepdgepjeiaaRefMac
import Derived.Outline
namespace Go.Proofs.Ytglmepdgepjeiaa
open Go.RowKit
set_option linter.unusedVariables false

set_option maxHeartbeats 1600000 in
theorem macTags_cc (k s t c d y g : ByteArray) (v : Bool) (w : World) (zk : k.size ≤ 140737488351232) (zs : s.size ≤ 140737488351232) (zt : t.size ≤ 140737488351232) (hc : Hid (k.extract 0 300 = c)) (hcs : (c.size : Int) ≤ 300) (hkk : 300 < (k.size : Int)) (hd : Hid (s.extract 0 300 = d)) (hds : (d.size : Int) ≤ 300) (hss : 300 < (s.size : Int))
    (HM : Hid (macB c d = y)) (HG : Hid (y.extract 0 16 = g)) (HV : Hid (decide (d = t) = v)) (HE : (d.toList == t.toList) = v) :
    Calls Try.prog 3 #[.string k, .string s, .string t] w fun e w' => e = .returned (.bool true) ∧ Below w.heap.size w w' := by
  go_enter Try.func3, Try.ntmps3
  try simp only [List.append_eq, List.cons_append, List.nil_append]
  go_wp2_with fail
  refine (examples_any _).mono ?_
  rintro e w1 ⟨rfl, bb⟩
  go_wp2_with fail
  rw [hc.out]
  rw [hd.out]
  refine (mac_is _ _ _ (by omega) (by omega)).mono ?_
  rw [HM.out]
  rintro e w9 ⟨rfl, b9⟩
  replace bb := chain bb b9
  clear b9
  go_wp2_with fail
  refine (refMac_is _ _ _ (by omega) (by omega)).mono ?_
  rw [HM.out]
  rintro e w9 ⟨rfl, b9⟩
  replace bb := chain bb b9
  clear b9
  go_wp2_with fail
  refine (tag_is _ _ _ (by omega) (by omega)).mono ?_
  rw [HM.out, HG.out]
  rintro e w9 ⟨rfl, b9⟩
  replace bb := chain bb b9
  clear b9
  go_wp2_with fail
  refine (refTag_is _ _ _ (by omega) (by omega)).mono ?_
  rw [HM.out, HG.out]
  rintro e w9 ⟨rfl, b9⟩
  replace bb := chain bb b9
  clear b9
  go_wp2_with fail
  refine (same_is _ _ _ (by omega) (by omega)).mono ?_
  rw [HV.out]
  rintro e w9 ⟨rfl, rfl⟩
  go_wp2_with fail
  go_ret
  refine ⟨ret_true ?_, bb⟩
  first | (simp; done) | (cases v <;> simp)
set_option maxHeartbeats 1600000 in
theorem macTags_cs (k s t c d y g : ByteArray) (v : Bool) (w : World) (zk : k.size ≤ 140737488351232) (zs : s.size ≤ 140737488351232) (zt : t.size ≤ 140737488351232) (hc : Hid (k.extract 0 300 = c)) (hcs : (c.size : Int) ≤ 300) (hkk : 300 < (k.size : Int)) (hss : (s.size : Int) ≤ 300)
    (HM : Hid (macB c s = y)) (HG : Hid (y.extract 0 16 = g)) (HV : Hid (decide (s = t) = v)) (HE : (s.toList == t.toList) = v) :
    Calls Try.prog 3 #[.string k, .string s, .string t] w fun e w' => e = .returned (.bool true) ∧ Below w.heap.size w w' := by
  go_enter Try.func3, Try.ntmps3
  try simp only [List.append_eq, List.cons_append, List.nil_append]
  go_wp2_with fail
  refine (examples_any _).mono ?_
  rintro e w1 ⟨rfl, bb⟩
  go_wp2_with fail
  rw [hc.out]
  refine (mac_is _ _ _ (by omega) (by omega)).mono ?_
  rw [HM.out]
  rintro e w9 ⟨rfl, b9⟩
  replace bb := chain bb b9
  clear b9
  go_wp2_with fail
  refine (refMac_is _ _ _ (by omega) (by omega)).mono ?_
  rw [HM.out]
  rintro e w9 ⟨rfl, b9⟩
  replace bb := chain bb b9
  clear b9
  go_wp2_with fail
  refine (tag_is _ _ _ (by omega) (by omega)).mono ?_
  rw [HM.out, HG.out]
  rintro e w9 ⟨rfl, b9⟩
  replace bb := chain bb b9
  clear b9
  go_wp2_with fail
  refine (refTag_is _ _ _ (by omega) (by omega)).mono ?_
  rw [HM.out, HG.out]
  rintro e w9 ⟨rfl, b9⟩
  replace bb := chain bb b9
  clear b9
  go_wp2_with fail
  refine (same_is _ _ _ (by omega) (by omega)).mono ?_
  rw [HV.out]
  rintro e w9 ⟨rfl, rfl⟩
  go_wp2_with fail
  go_ret
  refine ⟨ret_true ?_, bb⟩
  first | (simp; done) | (cases v <;> simp)
set_option maxHeartbeats 1600000 in
theorem macTags_sc (k s t c d y g : ByteArray) (v : Bool) (w : World) (zk : k.size ≤ 140737488351232) (zs : s.size ≤ 140737488351232) (zt : t.size ≤ 140737488351232) (hkk : (k.size : Int) ≤ 300) (hd : Hid (s.extract 0 300 = d)) (hds : (d.size : Int) ≤ 300) (hss : 300 < (s.size : Int))
    (HM : Hid (macB k d = y)) (HG : Hid (y.extract 0 16 = g)) (HV : Hid (decide (d = t) = v)) (HE : (d.toList == t.toList) = v) :
    Calls Try.prog 3 #[.string k, .string s, .string t] w fun e w' => e = .returned (.bool true) ∧ Below w.heap.size w w' := by
  go_enter Try.func3, Try.ntmps3
  try simp only [List.append_eq, List.cons_append, List.nil_append]
  go_wp2_with fail
  refine (examples_any _).mono ?_
  rintro e w1 ⟨rfl, bb⟩
  go_wp2_with fail
  rw [hd.out]
  refine (mac_is _ _ _ (by omega) (by omega)).mono ?_
  rw [HM.out]
  rintro e w9 ⟨rfl, b9⟩
  replace bb := chain bb b9
  clear b9
  go_wp2_with fail
  refine (refMac_is _ _ _ (by omega) (by omega)).mono ?_
  rw [HM.out]
  rintro e w9 ⟨rfl, b9⟩
  replace bb := chain bb b9
  clear b9
  go_wp2_with fail
  refine (tag_is _ _ _ (by omega) (by omega)).mono ?_
  rw [HM.out, HG.out]
  rintro e w9 ⟨rfl, b9⟩
  replace bb := chain bb b9
  clear b9
  go_wp2_with fail
  refine (refTag_is _ _ _ (by omega) (by omega)).mono ?_
  rw [HM.out, HG.out]
  rintro e w9 ⟨rfl, b9⟩
  replace bb := chain bb b9
  clear b9
  go_wp2_with fail
  refine (same_is _ _ _ (by omega) (by omega)).mono ?_
  rw [HV.out]
  rintro e w9 ⟨rfl, rfl⟩
  go_wp2_with fail
  go_ret
  refine ⟨ret_true ?_, bb⟩
  first | (simp; done) | (cases v <;> simp)
set_option maxHeartbeats 1600000 in
theorem macTags_ss (k s t c d y g : ByteArray) (v : Bool) (w : World) (zk : k.size ≤ 140737488351232) (zs : s.size ≤ 140737488351232) (zt : t.size ≤ 140737488351232) (hkk : (k.size : Int) ≤ 300) (hss : (s.size : Int) ≤ 300)
    (HM : Hid (macB k s = y)) (HG : Hid (y.extract 0 16 = g)) (HV : Hid (decide (s = t) = v)) (HE : (s.toList == t.toList) = v) :
    Calls Try.prog 3 #[.string k, .string s, .string t] w fun e w' => e = .returned (.bool true) ∧ Below w.heap.size w w' := by
  go_enter Try.func3, Try.ntmps3
  try simp only [List.append_eq, List.cons_append, List.nil_append]
  go_wp2_with fail
  refine (examples_any _).mono ?_
  rintro e w1 ⟨rfl, bb⟩
  go_wp2_with fail
  refine (mac_is _ _ _ (by omega) (by omega)).mono ?_
  rw [HM.out]
  rintro e w9 ⟨rfl, b9⟩
  replace bb := chain bb b9
  clear b9
  go_wp2_with fail
  refine (refMac_is _ _ _ (by omega) (by omega)).mono ?_
  rw [HM.out]
  rintro e w9 ⟨rfl, b9⟩
  replace bb := chain bb b9
  clear b9
  go_wp2_with fail
  refine (tag_is _ _ _ (by omega) (by omega)).mono ?_
  rw [HM.out, HG.out]
  rintro e w9 ⟨rfl, b9⟩
  replace bb := chain bb b9
  clear b9
  go_wp2_with fail
  refine (refTag_is _ _ _ (by omega) (by omega)).mono ?_
  rw [HM.out, HG.out]
  rintro e w9 ⟨rfl, b9⟩
  replace bb := chain bb b9
  clear b9
  go_wp2_with fail
  refine (same_is _ _ _ (by omega) (by omega)).mono ?_
  rw [HV.out]
  rintro e w9 ⟨rfl, rfl⟩
  go_wp2_with fail
  go_ret
  refine ⟨ret_true ?_, bb⟩
  first | (simp; done) | (cases v <;> simp)
theorem macTags_law (a0 a1 a2 : ByteArray) (w : World) (z0 : a0.size ≤ 140737488351232) (z1 : a1.size ≤ 140737488351232) (z2 : a2.size ≤ 140737488351232) :
    Calls Try.prog 3 #[.string a0, .string a1, .string a2] w fun e w' => e = .returned (.bool true) ∧ Below w.heap.size w w' := by
  have hz : ∀ a : ByteArray, ((a.extract 0 300).size : Int) ≤ 300 := fun a => by rw [ByteArray.size_extract]; omega
  rcases Int.lt_or_le 300 (a0.size : Int) with hs | hs <;> rcases Int.lt_or_le 300 (a1.size : Int) with ht | ht
  · exact macTags_cc a0 a1 a2 _ _ _ _ _ w z0 z1 z2 (Lib.hid rfl) (hz _) hs (Lib.hid rfl) (hz _) ht (Lib.hid rfl) (Lib.hid rfl) (Lib.hid rfl) (list_beq _ _)
  · exact macTags_cs a0 a1 a2 _ a1 _ _ _ w z0 z1 z2 (Lib.hid rfl) (hz _) hs ht (Lib.hid rfl) (Lib.hid rfl) (Lib.hid rfl) (list_beq _ _)
  · exact macTags_sc a0 a1 a2 a0 _ _ _ _ w z0 z1 z2 hs (Lib.hid rfl) (hz _) ht (Lib.hid rfl) (Lib.hid rfl) (Lib.hid rfl) (list_beq _ _)
  · exact macTags_ss a0 a1 a2 a0 a1 _ _ _ w z0 z1 z2 hs ht (Lib.hid rfl) (Lib.hid rfl) (Lib.hid rfl) (list_beq _ _)
end Go.Proofs.Ytglmepdgepjeiaa
