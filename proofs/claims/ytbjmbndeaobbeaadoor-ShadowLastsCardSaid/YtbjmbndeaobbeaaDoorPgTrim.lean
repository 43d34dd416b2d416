/-
  Package page: are all bytes 0? (strings.Trim at a cutset of the byte 0.)
-/
import Derived.Test.YtbjmbndeaobbeaaDoorPgSpec
namespace Go.Proofs.YtbjmbndeaobbeaaDoor
open Go.RowKit
set_option linter.unusedVariables false
set_option linter.unusedSimpArgs false
/-- The first byte that is not 0. -/
theorem first_nz (l : List UInt8) (h : zerosL l = false) : ∃ i, i < l.length ∧ (∀ j, j < i → l.getD j 0 = 0) ∧ l.getD i 0 ≠ 0 := by
  induction l with
  | nil => simp [zerosL] at h
  | cons a l ih =>
    by_cases ha : a = 0
    · subst ha
      have h2 : zerosL l = false := by
        unfold zerosL at *
        rw [List.all_cons] at h
        simpa using h
      obtain ⟨i, h1, h3, h4⟩ := ih h2
      refine ⟨i + 1, by simp; omega, fun j hj => ?_, by simpa using h4⟩
      cases j with
      | zero => rfl
      | succ j => simpa using h3 j (by omega)
    · exact ⟨0, by simp, fun j hj => absurd hj (Nat.not_lt_zero _), by simpa using ha⟩
theorem last_nz (l : List UInt8) (h : zerosL l = false) : ∃ k, 0 < k ∧ k ≤ l.length ∧ (∀ j, k ≤ j → j < l.length → l.getD j 0 = 0) ∧ l.getD (k - 1) 0 ≠ 0 := by
  have h2 : zerosL l.reverse = false := by unfold zerosL at *; rw [List.all_reverse]; exact h
  obtain ⟨i, h1, h3, h4⟩ := first_nz _ h2
  rw [List.length_reverse] at h1
  have e : ∀ j, j < l.length → l.reverse.getD j 0 = l.getD (l.length - 1 - j) 0 := fun j hj => by
    rw [List.getD_eq_getElem?_getD, List.getD_eq_getElem?_getD, List.getElem?_reverse hj]
  refine ⟨l.length - i, by omega, by omega, fun j hj hl => ?_, ?_⟩
  · have := h3 (l.length - 1 - j) (by omega)
    rw [e _ (by omega)] at this
    rwa [show l.length - 1 - (l.length - 1 - j) = j by omega] at this
  · rw [e i h1] at h4
    rwa [show l.length - i - 1 = l.length - 1 - i by omega]
theorem byte_at (s : ByteArray) (j : Nat) (h : j < s.size) : s[j] = s.data.toList.getD j 0 := by
  rw [List.getD_eq_getElem?_getD, List.getElem?_eq_getElem (by simpa using h)]
  simp [ByteArray.getElem_eq_getElem_data]
theorem ext_size (s : ByteArray) (i j : Nat) (h : j ≤ s.size) : (s.extract i j).size = j - i := by rw [ByteArray.size_extract]; omega
theorem ext_at (s : ByteArray) (i j n : Nat) (hj : j ≤ s.size) (h : n < (s.extract i j).size) : (s.extract i j)[n] = s.data.toList.getD (i + n) 0 := by
  rw [byte_at, extract_list]
  have := ext_size s i j hj
  rw [List.getD_eq_getElem?_getD, List.getElem?_take, if_pos (by omega), List.getElem?_drop, List.getD_eq_getElem?_getD]
theorem ext_ext (s : ByteArray) (i j a b : Nat) (hb : b ≤ j - i) (hj : j ≤ s.size) : (s.extract i j).extract a b = s.extract (i + a) (i + b) := by
  apply eq_of_data
  rw [extract_list, extract_list, extract_list, List.drop_take, List.drop_drop, List.take_take]
  congr 1
  omega
/-- How long a text is. -/
def strSz (v : Value) : Nat := match v with
  | .string s => s.size
  | _ => 0
theorem strSz_is (s : ByteArray) : strSz (.string s) = s.size := rfl
theorem u8_ne (x : UInt8) (h : x ≠ 0) : ((x.toNat : Int) == 0) = false := by
  have : (x.toNat : Int) ≠ 0 := fun hc => h (UInt8.toNat_inj.1 (by exact_mod_cast hc))
  simpa using this
set_option maxHeartbeats 800000 in
theorem trimR_is (s : ByteArray) (w : World) (hs : s.size ≤ 9223372036854775807) (k : Nat) (hk : k ≤ s.size) (hz : Hid (∀ j, k ≤ j → j < s.size → s.data.toList.getD j 0 = 0)) (hn : Hid (0 < k → s.data.toList.getD (k - 1) 0 ≠ 0)) (t : ByteArray) (ht : Hid (s.extract 0 k = t)) :
    Calls Tryd.prog 68 #[.string s, .int .u8 0] w fun e w' => e = .returned (.string t) ∧ w = w' := by
  have e0 : s = s.extract 0 s.size := by apply eq_of_data; rw [extract_list]; simp [List.take_of_length_le]
  have E0 := Lib.hid e0
  clear e0
  go_enter Tryd.func68, Tryd.ntmps68
  go_wp2_with fail
  go_loop [0] (fun v => ∃ (m : Nat) (u : ByteArray), k ≤ m ∧ m ≤ s.size ∧ v = .string u ∧ Hid (s.extract 0 m = u)) (fun v => strSz v)
  case atStart => exact ⟨s.size, s, hk, Nat.le_refl _, rfl, Lib.hid E0.out.symm⟩
  case round =>
    obtain ⟨m, u, hm, hms, rfl, HU⟩ := hrel
    have hus : u.size = m := by rw [← HU.out, ext_size _ _ _ hms]; omega
    have hsz2 : (m : Int) ≤ 9223372036854775807 := by omega
    by_cases hmk : m = k
    · by_cases h0 : k = 0
      · subst h0
        subst hmk
        have FT : Hid (u = t) := Lib.hid (by rw [← HU.out, ← ht.out])
        clear HU ht
        go_wp2_with fail
        go_ret
        exact ⟨by rw [← FT.out]; rfl, rfl⟩
      · have FT : Hid (u = t) := Lib.hid (by rw [← HU.out, ← ht.out, hmk])
        have h1m : 0 < m := by omega
        have hb : ∀ h : m - 1 < u.size, (((u[m - 1]'h).toNat : Int) == 0) = false := fun h => by
          refine u8_ne _ ?_
          have hh : (u[m - 1]'h) = s.data.toList.getD (k - 1) 0 := by
            have e1 := HU.out
            subst e1
            rw [ext_at _ _ _ _ hms]
            congr 1
            omega
          rw [hh]
          exact hn.out (by omega)
        clear HU ht hmk hz hn E0
        go_wp2_with fail
        go_ret
        exact ⟨by rw [← FT.out]; rfl, rfl⟩
    · have h1m : 0 < m := by omega
      have hb : ∀ h : m - 1 < u.size, (u[m - 1]'h).toNat = 0 := fun h => by
        have hh : (u[m - 1]'h) = s.data.toList.getD (m - 1) 0 := by
          have e1 := HU.out
          subst e1
          rw [ext_at _ _ _ _ hms]
          congr 1
          omega
        rw [hh, hz.out (m - 1) (by omega) (by omega)]
        rfl
      have FU : Hid (s.extract 0 (m - 1) = u.extract 0 (m - 1)) := Lib.hid (by
        rw [← HU.out, ext_ext _ _ _ _ _ (by omega) hms]; simp)
      have FS : Hid ((u.extract 0 (m - 1)).size < u.size) := Lib.hid (by rw [ByteArray.size_extract]; omega)
      have hm1 : k ≤ m - 1 := by omega
      clear HU ht hmk hz hn E0
      go_wp2_with fail
      go_round
      case rel => exact ⟨m - 1, _, hm1, by omega, rfl, FU⟩
      case measure => rw [strSz_is, strSz_is]; exact FS.out
set_option maxHeartbeats 800000 in
theorem trimL_is (s : ByteArray) (w : World) (hs : s.size ≤ 9223372036854775807) (k : Nat) (hk : k ≤ s.size) (hz : Hid (∀ j, j < k → s.data.toList.getD j 0 = 0)) (hn : Hid (k < s.size → s.data.toList.getD k 0 ≠ 0)) (t : ByteArray) (ht : Hid (s.extract k s.size = t)) :
    Calls Tryd.prog 67 #[.string s, .int .u8 0] w fun e w' => e = .returned (.string t) ∧ w = w' := by
  have e0 : s = s.extract 0 s.size := by apply eq_of_data; rw [extract_list]; simp [List.take_of_length_le]
  have E0 := Lib.hid e0
  clear e0
  go_enter Tryd.func67, Tryd.ntmps67
  go_wp2_with fail
  go_loop [0] (fun v => ∃ (m z : Nat) (u : ByteArray), m ≤ k ∧ v = .string u ∧ m + z = s.size ∧ Hid (s.extract m s.size = u)) (fun v => strSz v)
  case atStart => exact ⟨0, s.size, s, Nat.zero_le _, rfl, by omega, Lib.hid E0.out.symm⟩
  case round =>
    obtain ⟨m, z, u, hm, rfl, hmz, HU⟩ := hrel
    have hus : u.size = z := by rw [← HU.out, ext_size _ _ _ (Nat.le_refl _)]; omega
    have hsz2 : (z : Int) ≤ 9223372036854775807 := by omega
    by_cases hmk : m = k
    · by_cases h0 : z = 0
      · subst h0
        have FT : Hid (u = t) := Lib.hid (by rw [← HU.out, ← ht.out, hmk])
        clear HU ht hmk hmz
        go_wp2_with fail
        go_ret
        exact ⟨by rw [← FT.out]; rfl, rfl⟩
      · have FT : Hid (u = t) := Lib.hid (by rw [← HU.out, ← ht.out, hmk])
        have h1m : 0 < z := by omega
        have hb : ∀ h : 0 < u.size, (((u[0]'h).toNat : Int) == 0) = false := fun h => by
          refine u8_ne _ ?_
          have hh : (u[0]'h) = s.data.toList.getD k 0 := by
            have e1 := HU.out
            subst e1
            rw [ext_at _ _ _ _ (Nat.le_refl _)]
            congr 1
          rw [hh]
          exact hn.out (by omega)
        clear HU ht hmk hz hn E0 hmz
        go_wp2_with fail
        go_ret
        exact ⟨by rw [← FT.out]; rfl, rfl⟩
    · have h1m : 0 < z := by omega
      have hb : ∀ h : 0 < u.size, (u[0]'h).toNat = 0 := fun h => by
        have hh : (u[0]'h) = s.data.toList.getD m 0 := by
          have e1 := HU.out
          subst e1
          rw [ext_at _ _ _ _ (Nat.le_refl _)]
          congr 1
        rw [hh, hz.out m (by omega)]
        rfl
      have FU : Hid (s.extract (m + 1) s.size = u.extract 1 z) := Lib.hid (by
        rw [← HU.out, ext_ext _ _ _ _ _ (by omega) (Nat.le_refl _)]
        congr 1
        omega)
      have FS : Hid ((u.extract 1 z).size < u.size) := Lib.hid (by rw [ByteArray.size_extract]; omega)
      have hm1 : m + 1 ≤ k := by omega
      have hz1 : m + 1 + (z - 1) = s.size := by omega
      clear HU ht hmk hz hn E0 hmz
      go_wp2_with fail
      go_round
      case rel => exact ⟨m + 1, z - 1, _, hm1, rfl, hz1, FU⟩
      case measure => rw [strSz_is, strSz_is]; exact FS.out
end Go.Proofs.YtbjmbndeaobbeaaDoor
