/-
  Package page: a sector's bytes are opened.
-/
import Derived.Test.YtbjmbndeaobbeaaDoorPgSeal
import Derived.Test.YtbjmbndeaobbeaaDoorPgTrim
namespace Go.Proofs.YtbjmbndeaobbeaaDoor
open Go.RowKit
set_option linter.unusedVariables false
set_option linter.unusedSimpArgs false
theorem zeros_get (l : List UInt8) (h : zerosL l = true) (j : Nat) : l.getD j 0 = 0 := by
  rw [(zerosL_iff l).1 h, List.getD_eq_getElem?_getD, List.getElem?_replicate]
  split <;> rfl
set_option maxHeartbeats 800000 in
set_option maxRecDepth 20000 in
theorem trim_yes (s : ByteArray) (w : World) (hs : s.size ≤ 9223372036854775807) (h : zerosL s.data.toList = true) :
    Calls Tryd.prog 66 #[.string s, .string ⟨#[0]⟩] w fun e w' => e = .returned (.string ⟨#[]⟩) ∧ (∃ n, w' = w.drewN n) := by
  by_cases h0 : s.size = 0
  · obtain rfl : s = ⟨#[]⟩ := by
      apply eq_of_data
      have := size_list s
      rw [h0] at this
      rw [List.length_eq_zero_iff.1 this]
    clear h h0
    go_enter Tryd.func66, Tryd.ntmps66
    go_wp2_with fail
    go_ret
    exact ⟨rfl, 0, rfl⟩
  · have hne := nonempty s (by omega)
    have hne2 : (s.toList = []) = False := by
      apply eq_false
      intro hc
      rw [hc] at hne
      exact absurd hne (by decide)
    have R := Lib.hid fun w => trimR_is s w hs 0 (Nat.zero_le _) (Lib.hid fun j _ _ => zeros_get _ h j) (Lib.hid fun hc => absurd hc (Nat.lt_irrefl _)) ⟨#[]⟩ (Lib.hid (by apply eq_of_data; rw [extract_list]; simp))
    have L := Lib.hid fun w => trimL_is (⟨#[]⟩ : ByteArray) w (by decide) 0 (Nat.zero_le _) (Lib.hid fun j hj => absurd hj (Nat.not_lt_zero _)) (Lib.hid fun hc => absurd hc (by decide)) ⟨#[]⟩ (Lib.hid rfl)
    clear h h0
    go_enter Tryd.func66, Tryd.ntmps66
    go_wp2_with fail
    go_quiet ((first | (go_at_call 68; exact Calls.quiet_of_same ((R.out _).mono fun _ _ h => ⟨h.1, h.2.symm⟩)) | (go_at_call 67; exact Calls.quiet_of_same ((L.out _).mono fun _ _ h => ⟨h.1, h.2.symm⟩))))
    go_wp2_with fail
    go_ret
    exact ⟨rfl, nq, rfl⟩
/-- A text that is not empty. -/
def NonE (w : World) (e : Ending) (w' : World) : Prop := ∃ (u : ByteArray) (n : Nat), 0 < u.size ∧ e = .returned (.string u) ∧ w' = w.drewN n
set_option maxHeartbeats 800000 in
set_option maxRecDepth 20000 in
theorem trim_no (s : ByteArray) (w : World) (hs : s.size ≤ 9223372036854775807) (h : zerosL s.data.toList = false) :
    Calls Tryd.prog 66 #[.string s, .string ⟨#[0]⟩] w (NonE w) := by
  obtain ⟨k, k0, k1, k2, k3⟩ := last_nz _ h
  have hsl := size_list s
  rw [hsl] at k1
  have h0 : 0 < s.size := by omega
  have hne := nonempty s (by omega)
  have hne2 : (s.toList = []) = False := by
    apply eq_false
    intro hc
    rw [hc] at hne
    exact absurd hne (by decide)
  obtain ⟨t, ht⟩ : ∃ t, s.extract 0 k = t := ⟨_, rfl⟩
  have hts : t.size = k := by rw [← ht, ext_size _ _ _ k1]; omega
  have htl : ∀ j, j < k → t.data.toList.getD j 0 = s.data.toList.getD j 0 := fun j hj => by
    rw [← ht, extract_list, List.getD_eq_getElem?_getD, List.getElem?_take, if_pos (by omega)]
    simp
  have hnz : zerosL t.data.toList = false := by
    rw [Bool.eq_false_iff]
    intro hc
    have := zeros_get _ hc (k - 1)
    rw [htl _ (by omega)] at this
    exact k3 this
  obtain ⟨i, i1, i2, i3⟩ := first_nz _ hnz
  rw [size_list] at i1
  have R := Lib.hid fun w => trimR_is s w hs k k1 (Lib.hid fun j a b => k2 j a (by omega)) (Lib.hid fun _ => k3) t (Lib.hid ht)
  have L := Lib.hid fun w => trimL_is t w (by omega) i (by omega) (Lib.hid i2) (Lib.hid fun _ => i3) _ (Lib.hid rfl)
  have hz : 0 < (t.extract i t.size).size := by rw [ext_size _ _ _ (Nat.le_refl _)]; omega
  have HZ := Lib.hid hz
  clear hz
  generalize t.extract i t.size = u at *
  clear h h0 k2 k3 htl hnz i2 i3 ht hts hsl
  go_enter Tryd.func66, Tryd.ntmps66
  go_wp2_with fail
  go_quiet ((first | (go_at_call 68; exact Calls.quiet_of_same ((R.out _).mono fun _ _ h => ⟨h.1, h.2.symm⟩)) | (go_at_call 67; exact Calls.quiet_of_same ((L.out _).mono fun _ _ h => ⟨h.1, h.2.symm⟩))))
  go_wp2_with fail
  go_ret
  exact ⟨u, nq, HZ.out, rfl, rfl⟩
set_option maxHeartbeats 800000 in
theorem zeros_is (s : ByteArray) (w : World) (hs : s.size ≤ 9223372036854775807) (v : Bool) (hv : zerosL s.data.toList = v) :
    Calls Tryd.prog 61 #[.string s] w fun e w' => e = .returned (.bool v) ∧ Below w.heap.size w w' := by
  cases v
  · have HV := Lib.hid hv
    clear hv
    go_enter Tryd.func61, Tryd.ntmps61
    go_wp2_with fail
    refine (trim_no s _ hs HV.out).mono ?_
    rintro e w1 ⟨u, n, hu, rfl, rfl⟩
    have hne := nonempty u hu
    have hne2 : (u.toList = []) = False := by
      apply eq_false
      intro hc
      rw [hc] at hne
      exact absurd hne (by decide)
    go_wp2_with fail
    go_ret
    exact ⟨rfl, drewN_below (Below.refl _ _) _⟩
  · have HV := Lib.hid hv
    clear hv
    go_enter Tryd.func61, Tryd.ntmps61
    go_wp2_with fail
    refine (trim_yes s _ hs HV.out).mono ?_
    rintro e w1 ⟨rfl, n, rfl⟩
    go_wp2_with fail
    go_ret
    exact ⟨rfl, drewN_below (Below.refl _ _) _⟩
set_option maxHeartbeats 800000 in
theorem open_len (b : ByteArray) (w : World) (h : b.size ≠ 256) :
    Calls Tryd.prog 51 #[.string b] w fun e w' => e = .returned (.tuple #[.int .i64 0, .string ⟨#[]⟩, .int .i64 2]) ∧ Below w.heap.size w w' := by
  have h1 : ((b.size : Int) == 256) = false := by simpa using (fun hc : (b.size : Int) = 256 => h (by omega))
  have h2 : ((b.size : Int) != 256) = true := by simp [bne, h1]
  go_enter Tryd.func51, Tryd.ntmps51
  go_wp2_with fail
  go_ret3
  exact ⟨rfl, Below.refl _ _⟩
theorem drop_ext (b : ByteArray) (h : b.size = 256) : (b.extract 252 256).data.toList = b.data.toList.drop 252 := by
  rw [extract_list]
  exact List.take_of_length_le (by simp [h])
theorem take_ext (b : ByteArray) : (b.extract 0 252).data.toList = b.data.toList.take 252 := by
  rw [extract_list]; rfl
set_option maxHeartbeats 1600000 in
set_option maxRecDepth 20000 in
theorem open_sum (b : ByteArray) (w : World) (h : b.size = 256) (hs : opSum b.data.toList = false) :
    Calls Tryd.prog 51 #[.string b] w fun e w' => e = .returned (.tuple #[.int .i64 0, .string ⟨#[]⟩, .int .i64 15]) ∧ Below w.heap.size w w' := by
  obtain ⟨X, HX⟩ : ∃ X, b.extract 0 252 = X := ⟨_, rfl⟩
  obtain ⟨T, HT⟩ : ∃ T, b.extract 252 256 = T := ⟨_, rfl⟩
  obtain ⟨Y, HY⟩ : ∃ Y, Hid (Str (four (adS X.data.toList)) = Y) := ⟨_, Lib.hid rfl⟩
  have hXz : X.size ≤ 9223372036854775807 := by rw [← HX, ByteArray.size_extract]; omega
  have hne : (T = Y) = False := by
    apply eq_false
    intro hc
    have e1 : T.data.toList = Y.data.toList := by rw [hc]
    rw [← HT, drop_ext b h, ← HY.out, Str_list, ← HX, take_ext] at e1
    unfold opSum at hs
    rw [e1] at hs
    simp at hs
  have hne1 : (T.toList = Y.toList) = False := by rw [list_inj]; exact hne
  have hne2 : (T.toList == Y.toList) = false := by rw [list_beq]; simp [hne]
  have hne3 : (T.toList != Y.toList) = true := by simp [bne, hne2]
  clear hs hne
  go_enter Tryd.func51, Tryd.ntmps51
  go_wp2_with fail
  go_region_with (go_at_call 55; refine (pgBytes_any _ _ hXz _ HY).mono ?_; rintro e w9 ⟨rfl, b9⟩)
  all_goals
    go_wp2_with fail
    go_ret3
    exact ⟨rfl, chain ((Below.refl _ _).drew) b9⟩
theorem byte_nat (b : ByteArray) (j K : Nat) (h : (b.data.toList.getD j 0).toNat = K) (hj : j < b.size) : (b[j]'hj).toNat = K := by
  rw [byte_at, h]
set_option maxHeartbeats 1600000 in
set_option maxRecDepth 20000 in
theorem open_kind (b : ByteArray) (w : World) (h : b.size = 256) (hs : opSum b.data.toList = true) (hk : kindB (opKind b.data.toList : Int) = false ∨ 240 < opSize b.data.toList) :
    Calls Tryd.prog 51 #[.string b] w fun e w' => e = .returned (.tuple #[.int .i64 0, .string ⟨#[]⟩, .int .i64 2]) ∧ Below w.heap.size w w' := by
  obtain ⟨X, HX⟩ : ∃ X, b.extract 0 252 = X := ⟨_, rfl⟩
  obtain ⟨T, HT⟩ : ∃ T, b.extract 252 256 = T := ⟨_, rfl⟩
  have hXz : X.size ≤ 9223372036854775807 := by rw [← HX, ByteArray.size_extract]; omega
  have HY : Hid (Str (four (adS X.data.toList)) = T) := Lib.hid (by
    apply eq_of_data
    rw [Str_list, ← HT, drop_ext b h, ← HX, take_ext]
    exact (eq_of_beq hs).symm)
  obtain ⟨K, hK⟩ : ∃ K, opKind b.data.toList = K := ⟨_, rfl⟩
  obtain ⟨Z, hZ⟩ : ∃ Z, opSize b.data.toList = Z := ⟨_, rfl⟩
  have hKl := opKind_lt b.data.toList
  have hZl := opSize_lt b.data.toList
  rw [hK] at hKl
  rw [hZ] at hZl
  have x0 := byte_nat b 0 K hK (by omega)
  have x1 := byte_nat b 1 Z hZ (by omega)
  rw [hK, hZ] at hk
  obtain ⟨v, HK⟩ : ∃ v, Hid (kindB (K : Int) = v) := ⟨_, Lib.hid rfl⟩
  have hc : v = false ∨ (v = true ∧ (240 : Int) < (Z : Int)) := by
    rw [HK.out] at hk
    cases v
    · exact .inl rfl
    · exact .inr ⟨rfl, by rcases hk with hk | hk; cases hk; omega⟩
  clear hk hK hZ
  rcases hc with rfl | ⟨rfl, hz⟩
  · go_enter Tryd.func51, Tryd.ntmps51
    go_wp2_with fail
    go_region_with (go_at_call 55; refine (pgBytes_any _ _ hXz _ HY).mono ?_; rintro e w9 ⟨rfl, b9⟩)
    all_goals
      have B9 := Lib.hid (chain ((Below.refl w.heap.size w).drew) b9)
      clear b9
      go_wp2_with fail
      go_quiet (fail)
      replace B9 := Lib.hid (drewN_below B9.out nq)
      generalize w9.drewN nq = wq at *
      go_wp2_with fail
      refine (kind_is (K : Int) _ _ HK.out).mono ?_
      rintro e w10 ⟨rfl, rfl⟩
      go_wp2_with fail
      go_ret3
      exact ⟨rfl, B9.out⟩
  · go_enter Tryd.func51, Tryd.ntmps51
    go_wp2_with fail
    go_region_with (go_at_call 55; refine (pgBytes_any _ _ hXz _ HY).mono ?_; rintro e w9 ⟨rfl, b9⟩)
    all_goals
      have B9 := Lib.hid (chain ((Below.refl w.heap.size w).drew) b9)
      clear b9
      go_wp2_with fail
      go_quiet (fail)
      replace B9 := Lib.hid (drewN_below B9.out nq)
      generalize w9.drewN nq = wq at *
      go_wp2_with fail
      refine (kind_is (K : Int) _ _ HK.out).mono ?_
      rintro e w10 ⟨rfl, rfl⟩
      go_wp2_with fail
      go_ret3
      exact ⟨rfl, B9.out⟩
set_option maxHeartbeats 1600000 in
set_option maxRecDepth 20000 in
theorem open_rest (b : ByteArray) (w : World) (h : b.size = 256) (hs : opSum b.data.toList = true) (hk : kindB (opKind b.data.toList : Int) = true) (hq : opSize b.data.toList ≤ 240) (hv : zerosL (opRest b.data.toList) = false) :
    Calls Tryd.prog 51 #[.string b] w fun e w' => e = .returned (.tuple #[.int .i64 0, .string ⟨#[]⟩, .int .i64 2]) ∧ Below w.heap.size w w' := by
  obtain ⟨X, HX⟩ : ∃ X, b.extract 0 252 = X := ⟨_, rfl⟩
  obtain ⟨T, HT⟩ : ∃ T, b.extract 252 256 = T := ⟨_, rfl⟩
  have hXz : X.size ≤ 9223372036854775807 := by rw [← HX, ByteArray.size_extract]; omega
  have HY : Hid (Str (four (adS X.data.toList)) = T) := Lib.hid (by
    apply eq_of_data
    rw [Str_list, ← HT, drop_ext b h, ← HX, take_ext]
    exact (eq_of_beq hs).symm)
  obtain ⟨K, hK⟩ : ∃ K, opKind b.data.toList = K := ⟨_, rfl⟩
  obtain ⟨Z, hZ⟩ : ∃ Z, opSize b.data.toList = Z := ⟨_, rfl⟩
  have hKl := opKind_lt b.data.toList
  have hZl := opSize_lt b.data.toList
  rw [hK] at hKl
  rw [hZ] at hZl
  have x0 := byte_nat b 0 K hK (by omega)
  have x1 := byte_nat b 1 Z hZ (by omega)
  rw [hK] at hk
  rw [hZ] at hq
  have HK := Lib.hid hk
  have hqi : (Z : Int) ≤ 240 := by omega
  obtain ⟨R, hR⟩ : ∃ R, b.extract (2 + Z) 252 = R := ⟨_, rfl⟩
  have HV : Hid (zerosL R.data.toList = false) := Lib.hid (by
    rw [← hR, extract_list, show 252 - (2 + Z) = 250 - Z by omega, ← hZ]; exact hv)
  clear hv hk hK hZ
  go_enter Tryd.func51, Tryd.ntmps51
  go_wp2_with fail
  go_region_with (go_at_call 55; refine (pgBytes_any _ _ hXz _ HY).mono ?_; rintro e w9 ⟨rfl, b9⟩)
  all_goals
    have B9 := Lib.hid (chain ((Below.refl w.heap.size w).drew) b9)
    clear b9
    go_wp2_with fail
    go_quiet (fail)
    replace B9 := Lib.hid (drewN_below B9.out nq)
    generalize w9.drewN nq = wq at *
    go_wp2_with fail
    refine (kind_is (K : Int) _ _ HK.out).mono ?_
    rintro e w10 ⟨rfl, rfl⟩
    go_wp2_with fail
    refine (zeros_is _ _ (by rw [← hR, ByteArray.size_extract]; omega) false HV.out).mono ?_
    rintro e w11 ⟨rfl, b11⟩
    replace B9 := Lib.hid (chain B9.out b11)
    clear b11
    go_wp2_with fail
    go_ret3
    exact ⟨rfl, B9.out⟩
set_option maxHeartbeats 1600000 in
set_option maxRecDepth 20000 in
theorem open_ok (b : ByteArray) (w : World) (h : b.size = 256) (hs : opSum b.data.toList = true) (hk : kindB (opKind b.data.toList : Int) = true) (hq : opSize b.data.toList ≤ 240) (hv : zerosL (opRest b.data.toList) = true) :
    Calls Tryd.prog 51 #[.string b] w fun e w' => e = .returned (.tuple #[.int .i64 (opKind b.data.toList : Int), .string (Str (opText b.data.toList)), .int .i64 0]) ∧ Below w.heap.size w w' := by
  obtain ⟨X, HX⟩ : ∃ X, b.extract 0 252 = X := ⟨_, rfl⟩
  obtain ⟨T, HT⟩ : ∃ T, b.extract 252 256 = T := ⟨_, rfl⟩
  have hXz : X.size ≤ 9223372036854775807 := by rw [← HX, ByteArray.size_extract]; omega
  have HY : Hid (Str (four (adS X.data.toList)) = T) := Lib.hid (by
    apply eq_of_data
    rw [Str_list, ← HT, drop_ext b h, ← HX, take_ext]
    exact (eq_of_beq hs).symm)
  obtain ⟨K, hK⟩ : ∃ K, opKind b.data.toList = K := ⟨_, rfl⟩
  obtain ⟨Z, hZ⟩ : ∃ Z, opSize b.data.toList = Z := ⟨_, rfl⟩
  have hKl := opKind_lt b.data.toList
  have hZl := opSize_lt b.data.toList
  rw [hK] at hKl
  rw [hZ] at hZl
  have x0 := byte_nat b 0 K hK (by omega)
  have x1 := byte_nat b 1 Z hZ (by omega)
  have HO : Hid (Str (opText b.data.toList) = b.extract 2 (2 + Z)) := Lib.hid (by
    apply eq_of_data
    rw [Str_list, extract_list, show 2 + Z - 2 = Z by omega, ← hZ]; rfl)
  rw [HO.out]
  rw [hK] at hk ⊢
  rw [hZ] at hq
  have HK := Lib.hid hk
  have hqi : (Z : Int) ≤ 240 := by omega
  obtain ⟨R, hR⟩ : ∃ R, b.extract (2 + Z) 252 = R := ⟨_, rfl⟩
  have HV : Hid (zerosL R.data.toList = true) := Lib.hid (by
    rw [← hR, extract_list, show 252 - (2 + Z) = 250 - Z by omega, ← hZ]; exact hv)
  obtain ⟨O, hO⟩ : ∃ O, b.extract 2 (2 + Z) = O := ⟨_, rfl⟩
  rw [hO]
  clear hv hk hK hZ HO
  go_enter Tryd.func51, Tryd.ntmps51
  go_wp2_with fail
  go_region_with (go_at_call 55; refine (pgBytes_any _ _ hXz _ HY).mono ?_; rintro e w9 ⟨rfl, b9⟩)
  all_goals
    have B9 := Lib.hid (chain ((Below.refl w.heap.size w).drew) b9)
    clear b9
    go_wp2_with fail
    go_quiet (fail)
    replace B9 := Lib.hid (drewN_below B9.out nq)
    generalize w9.drewN nq = wq at *
    go_wp2_with fail
    refine (kind_is (K : Int) _ _ HK.out).mono ?_
    rintro e w10 ⟨rfl, rfl⟩
    go_wp2_with fail
    refine (zeros_is _ _ (by rw [← hR, ByteArray.size_extract]; omega) true HV.out).mono ?_
    rintro e w11 ⟨rfl, b11⟩
    replace B9 := Lib.hid (chain B9.out b11)
    clear b11
    go_wp2_with fail
    go_quiet (fail)
    replace B9 := Lib.hid (drewN_below B9.out nq)
    generalize w11.drewN nq = wr at *
    go_wp2_with fail
    go_ret3
    exact ⟨by rw [← hO]; rfl, B9.out⟩
/-- Open, whatever the bytes. -/
theorem open_any (b : ByteArray) (w : World) :
    Calls Tryd.prog 51 #[.string b] w fun e w' => e = .returned (.tuple #[.int .i64 (opK b.data.toList : Int), .string (Str (opT b.data.toList)), .int .i64 (opE b.data.toList : Int)]) ∧ Below w.heap.size w w' := by
  by_cases hl : b.size = 256
  · have hl2 : b.data.toList.length = 256 := by rw [size_list]; exact hl
    cases hs : opSum b.data.toList
    · have := open_sum b w hl hs
      have e : opE b.data.toList = 15 := by unfold opE; rw [if_pos hl2, hs]; rfl
      unfold opK opT
      rw [e]
      exact this
    · cases hf : opFine b.data.toList
      · have e : opE b.data.toList = 2 := by unfold opE; rw [if_pos hl2, hs, hf]; rfl
        have hT : Calls Tryd.prog 51 #[.string b] w fun e w' => e = .returned (.tuple #[.int .i64 0, .string ⟨#[]⟩, .int .i64 2]) ∧ Below w.heap.size w w' := by
          cases hk : kindB (opKind b.data.toList : Int)
          · exact open_kind b w hl hs (.inl hk)
          · by_cases hq : opSize b.data.toList ≤ 240
            · refine open_rest b w hl hs hk hq ?_
              have := (kindB_iff _).1 hk
              rw [Bool.eq_false_iff]
              intro hz
              have := (opFine_iff b.data.toList).2 ⟨by omega, by omega, hq, hz⟩
              rw [hf] at this
              cases this
            · exact open_kind b w hl hs (.inr (by omega))
        unfold opK opT
        rw [e]
        exact hT
      · obtain ⟨a1, a2, a3, a4⟩ := (opFine_iff _).1 hf
        have e : opE b.data.toList = 0 := by unfold opE; rw [if_pos hl2, hs, hf]; rfl
        have := open_ok b w hl hs ((kindB_iff _).2 (by omega)) a3 a4
        unfold opK opT
        rw [e]
        exact this
  · have := open_len b w hl
    have e : opE b.data.toList = 2 := by unfold opE; rw [if_neg (by rw [size_list]; exact hl)]
    unfold opK opT
    rw [e]
    exact this
end Go.Proofs.YtbjmbndeaobbeaaDoor
