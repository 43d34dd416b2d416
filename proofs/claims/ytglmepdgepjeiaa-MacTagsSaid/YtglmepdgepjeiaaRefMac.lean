/-
  The document's Mac.
-/
import Derived.Test.YtglmepdgepjeiaaEx04
import Derived.Test.YtglmepdgepjeiaaRefTurned
import Derived.Test.YtglmepdgepjeiaaRefSum
import Derived.Outline
namespace Go.Proofs.Ytglmepdgepjeiaa
open Go.RowKit
set_option linter.unusedVariables false

set_option maxHeartbeats 1600000 in
theorem refMac_walk (key s k ko ki si m : ByteArray) (w : World) (hk : key.size ≤ 300) (hs : s.size ≤ 300) (HK : Hid (keyB key = k)) (hk64 : k.size ≤ 64)
    (HO : Hid (turnB k 0x5c = ko)) (HI : Hid (turnB k 0x36 = ki)) (HS : Hid (sumB (ki ++ s) = si)) (HM : Hid (sumB (ko ++ si) = m)) (ho : ko.size = 64) (hi : ki.size = 64) (hsi : si.size = 32) :
    Calls Try.prog 9 #[.string key, .string s] w fun e w' => e = .returned (.string m) ∧ Below w.heap.size w w' := by
  by_cases h64 : 64 < key.size
  · have hl : 64 < (key.size : Int) := by omega
    have HK2 : Hid (sumB key = k) := Lib.hid (by have := HK.out; unfold keyB at this; rwa [if_pos h64] at this)
    go_enter Try.func9, Try.ntmps9
    go_wp2_with fail
    refine (refSum_is _ _ (by omega)).mono ?_
    rw [HK2.out]
    rintro e w3 ⟨rfl, bb⟩
    go_wp2_with fail
    refine (refTurned_is k 0x5c 92 rfl _ hk64).mono ?_
    rw [HO.out]
    rintro e w3 ⟨rfl, b3⟩
    replace bb := chain bb b3
    clear b3
    go_wp2_with fail
    refine (refTurned_is k 0x36 54 rfl _ hk64).mono ?_
    rw [HI.out]
    rintro e w3 ⟨rfl, b3⟩
    replace bb := chain bb b3
    clear b3
    go_wp2_with fail
    refine (refSum_is _ _ (by rw [ByteArray.size_append]; omega)).mono ?_
    rw [HS.out]
    rintro e w3 ⟨rfl, b3⟩
    replace bb := chain bb b3
    clear b3
    go_wp2_with fail
    refine (refSum_is _ _ (by rw [ByteArray.size_append]; omega)).mono ?_
    rw [HM.out]
    rintro e w3 ⟨rfl, b3⟩
    replace bb := chain bb b3
    clear b3
    go_wp2_with fail
    go_ret
    exact ⟨rfl, bb⟩
  · have hl : (key.size : Int) ≤ 64 := by omega
    have HK2 : key = k := by have := HK.out; unfold keyB at this; rwa [if_neg h64] at this
    subst HK2
    go_enter Try.func9, Try.ntmps9
    go_wp2_with fail
    refine (refTurned_is key 0x5c 92 rfl _ hk64).mono ?_
    rw [HO.out]
    rintro e w3 ⟨rfl, bb⟩
    go_wp2_with fail
    refine (refTurned_is key 0x36 54 rfl _ hk64).mono ?_
    rw [HI.out]
    rintro e w3 ⟨rfl, b3⟩
    replace bb := chain bb b3
    clear b3
    go_wp2_with fail
    refine (refSum_is _ _ (by rw [ByteArray.size_append]; omega)).mono ?_
    rw [HS.out]
    rintro e w3 ⟨rfl, b3⟩
    replace bb := chain bb b3
    clear b3
    go_wp2_with fail
    refine (refSum_is _ _ (by rw [ByteArray.size_append]; omega)).mono ?_
    rw [HM.out]
    rintro e w3 ⟨rfl, b3⟩
    replace bb := chain bb b3
    clear b3
    go_wp2_with fail
    go_ret
    exact ⟨rfl, bb⟩
theorem refMac_is (key s : ByteArray) (w : World) (hk : key.size ≤ 300) (hs : s.size ≤ 300) :
    Calls Try.prog 9 #[.string key, .string s] w fun e w' => e = .returned (.string (macB key s)) ∧ Below w.heap.size w w' :=
  refMac_walk key s _ _ _ _ _ w hk hs (Lib.hid rfl) (keyB_size _) (Lib.hid rfl) (Lib.hid rfl) (Lib.hid rfl) (Lib.hid rfl) (turnB_size _ _ (keyB_size _)) (turnB_size _ _ (keyB_size _)) (sumB_size _)
set_option maxHeartbeats 800000 in
theorem refTag_is (key s : ByteArray) (w : World) (hk : key.size ≤ 300) (hs : s.size ≤ 300) :
    Calls Try.prog 11 #[.string key, .string s] w fun e w' => e = .returned (.string ((macB key s).extract 0 16)) ∧ Below w.heap.size w w' := by
  have hm := macB_size key s
  have HM := Lib.hid (refMac_is key s w hk hs)
  generalize macB key s = m at *
  go_enter Try.func11, Try.ntmps11
  go_wp2_with fail
  refine HM.out.mono ?_
  rintro e w3 ⟨rfl, b3⟩
  go_wp2_with fail
  go_ret
  exact ⟨rfl, b3⟩
end Go.Proofs.Ytglmepdgepjeiaa
