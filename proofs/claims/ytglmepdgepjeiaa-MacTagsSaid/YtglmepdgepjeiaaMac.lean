/-
  turned, Mac, Tag.
-/
import Derived.Test.YtglmepdgepjeiaaMac0
namespace Go.Proofs.Ytglmepdgepjeiaa
open Go.RowKit
set_option linter.unusedVariables false

theorem turned1_any (p : Nat) (key : ByteArray) (m : UInt8) (z : Int) (hz : (m.toNat : Int) = z) (w : World) (hp : p < w.heap.size) (hc : w.cell? ⟨p, 0, none⟩ = some (.string key)) (hk : key.size ≤ 64) :
    Calls Try.prog 23 #[.int .u8 z, .pointer (some ⟨p, 0, none⟩)] w fun e w' => e = .returned (.string (turnB key m)) ∧ Below w.heap.size w w' := by
  subst hz
  exact turned1_walk p key m w hp hc hk _ (Lib.hid rfl)
/-- The key that is turned. -/
def keyB (key : ByteArray) : ByteArray := if 64 < key.size then sumB key else key
theorem keyB_size (key : ByteArray) : (keyB key).size ≤ 64 := by
  unfold keyB
  split
  · rw [sumB_size]; decide
  · omega
def turnV (p : Nat) : Value := .func (.func 23) #[] #[.pointer (some ⟨p, 0, none⟩)]
set_option maxHeartbeats 1600000 in
theorem turned_any (key : ByteArray) (w : World) (hk : key.size ≤ 140737488351232) :
    Calls Try.prog 15 #[.string key] w fun e w' => ∃ p, e = .returned (turnV p) ∧ p < w'.heap.size ∧ w'.cell? ⟨p, 0, none⟩ = some (.string (keyB key)) ∧ Below w.heap.size w w' := by
  by_cases h64 : 64 < key.size
  · have hl : 64 < (key.size : Int) := by omega
    have HK : Hid (sumB key = keyB key) := Lib.hid (by unfold keyB; rw [if_pos h64])
    go_enter Try.func15, Try.ntmps15
    go_wp2_with fail
    have hn : (w.alloc (.cells #[.string key] 9)).heap[w.heap.size]? = some (.cells #[.string key] 9 (0, 0)) := heap_alloc_new w _
    have hb0 : Below w.heap.size w (w.alloc (.cells #[.string key] 9)) := (Below.refl _ _).alloc (Nat.le_refl _) _
    have hlt : w.heap.size < (w.alloc (.cells #[.string key] 9)).heap.size := by simp
    generalize w.alloc (.cells #[.string key] 9) = wa at *
    refine (sum_is _ _ (by omega)).mono ?_
    rw [HK.out]
    rintro e w1 ⟨rfl, b1⟩
    have hn1 := (b1.block _ hlt).trans hn
    have c1 := cell_of_row w1 w.heap.size 0 _ _ _ hn1
    have f1 := frozen_of_row w1 w.heap.size 0 _ _ hn1
    have FB : Hid (Below w.heap.size w (w1.setCell ⟨w.heap.size, 0, none⟩ (.string (keyB key)))) := Lib.hid ((hb0.trans (b1.mono (Nat.le_of_lt hlt))).setCell (Nat.le_refl _) _)
    have hlt1 : w.heap.size < w1.heap.size := (Array.getElem?_eq_some_iff.1 hn1).1
    have FC : Hid ((w1.setCell ⟨w.heap.size, 0, none⟩ (.string (keyB key))).cell? ⟨w.heap.size, 0, none⟩ = some (.string (keyB key))) := Lib.hid (World.cell?_setCell_same _ _ _ c1)
    have FS : Hid (w.heap.size < (w1.setCell ⟨w.heap.size, 0, none⟩ (.string (keyB key))).heap.size) := Lib.hid (by simpa [World.setCell] using hlt1)
    simp only [List.getElem?_toArray] at c1
    clear HK
    clear hn hn1 hb0 b1
    go_wp2_with fail
    go_ret
    exact ⟨_, rfl, FS.out, FC.out, FB.out⟩
  · have hl : (key.size : Int) ≤ 64 := by omega
    have HK : keyB key = key := by unfold keyB; rw [if_neg h64]
    rw [HK]
    go_enter Try.func15, Try.ntmps15
    go_wp2_with fail
    go_ret
    exact ⟨_, rfl, by simp, by rw [World.cell?_alloc_new]; rfl, (Below.refl _ _).alloc (Nat.le_refl _) _⟩
/-- The code of a text. -/
def macB (key s : ByteArray) : ByteArray := sumB (turnB (keyB key) 0x5c ++ sumB (turnB (keyB key) 0x36 ++ s))
theorem macB_size (key s : ByteArray) : (macB key s).size = 32 := sumB_size _
set_option maxHeartbeats 1600000 in
theorem mac_walk (key s ko ki si m : ByteArray) (w : World) (hk : key.size ≤ 140737488351232) (hs : s.size ≤ 140737488351232)
    (HO : Hid (turnB (keyB key) 0x5c = ko)) (HI : Hid (turnB (keyB key) 0x36 = ki)) (HS : Hid (sumB (ki ++ s) = si)) (HM : Hid (sumB (ko ++ si) = m)) (ho : ko.size = 64) (hi : ki.size = 64) (hsi : si.size = 32) :
    Calls Try.prog 8 #[.string key, .string s] w fun e w' => e = .returned (.string m) ∧ Below w.heap.size w w' := by
  go_enter Try.func8, Try.ntmps8
  go_wp2_with fail
  refine (turned_any _ _ hk).mono ?_
  rintro e w1 ⟨p, rfl, hp, hc, bb⟩
  have HC := Lib.hid hc
  clear hc
  unfold turnV
  go_wp2_with fail
  refine (turned1_any p (keyB key) 0x5c 92 rfl _ hp HC.out (keyB_size _)).mono ?_
  rw [HO.out]
  rintro e w2 ⟨rfl, b2⟩
  have HC2 := Lib.hid ((b2.cell (p := ⟨p, 0, none⟩) hp).trans HC.out)
  have hp2 := Nat.lt_of_lt_of_le hp b2.size
  replace bb := chain bb b2
  clear b2
  go_wp2_with fail
  refine (turned1_any p (keyB key) 0x36 54 rfl _ hp2 HC2.out (keyB_size _)).mono ?_
  rw [HI.out]
  rintro e w3 ⟨rfl, b3⟩
  replace bb := chain bb b3
  clear b3
  go_wp2_with fail
  refine (sum_is _ _ (by rw [ByteArray.size_append]; omega)).mono ?_
  rw [HS.out]
  rintro e w3 ⟨rfl, b3⟩
  replace bb := chain bb b3
  clear b3
  go_wp2_with fail
  refine (sum_is _ _ (by rw [ByteArray.size_append]; omega)).mono ?_
  rw [HM.out]
  rintro e w3 ⟨rfl, b3⟩
  replace bb := chain bb b3
  clear b3
  go_wp2_with fail
  go_ret
  exact ⟨rfl, bb⟩
theorem mac_is (key s : ByteArray) (w : World) (hk : key.size ≤ 140737488351232) (hs : s.size ≤ 140737488351232) :
    Calls Try.prog 8 #[.string key, .string s] w fun e w' => e = .returned (.string (macB key s)) ∧ Below w.heap.size w w' :=
  mac_walk key s _ _ _ _ w hk hs (Lib.hid rfl) (Lib.hid rfl) (Lib.hid rfl) (Lib.hid rfl) (turnB_size _ _ (keyB_size _)) (turnB_size _ _ (keyB_size _)) (sumB_size _)
set_option maxHeartbeats 800000 in
theorem tag_is (key s : ByteArray) (w : World) (hk : key.size ≤ 140737488351232) (hs : s.size ≤ 140737488351232) :
    Calls Try.prog 10 #[.string key, .string s] w fun e w' => e = .returned (.string ((macB key s).extract 0 16)) ∧ Below w.heap.size w w' := by
  have hm := macB_size key s
  have HM := Lib.hid (mac_is key s w hk hs)
  generalize macB key s = m at *
  go_enter Try.func10, Try.ntmps10
  go_wp2_with fail
  refine HM.out.mono ?_
  rintro e w3 ⟨rfl, b3⟩
  go_wp2_with fail
  go_ret
  exact ⟨rfl, b3⟩
end Go.Proofs.Ytglmepdgepjeiaa
