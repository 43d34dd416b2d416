/-
  Package bailiwickref07: the sum, the pages: it answers what page answers.
-/
import Derived.Test.YtojofakfnlofhaaDoorEx07
namespace Go.Proofs.YtojofakfnlofhaaDoor
open Go.RowKit
set_option linter.unusedVariables false
set_option linter.unusedSimpArgs false
set_option maxHeartbeats 1600000 in
theorem refSum7_any (s : ByteArray) (w : World) (hs : s.size ≤ 9223372036854775807) (N : Nat) (HN : Hid (adS s.data.toList = N)) :
    Calls Tryd.prog 14 #[.string s] w fun e w' => e = .returned (.int .u32 (N : Int)) ∧ w = w' := by
  go_enter Tryd.func14, Tryd.ntmps14
  go_wp2_with fail
  go_loop [3, 4, 5] (fun a b i => ∃ k A B : Nat, k ≤ s.size ∧ a = .int .i64 (A : Int) ∧ b = .int .i64 (B : Int) ∧ i = .int .i64 (k : Int) ∧ A < 65521 ∧ B < 65521 ∧ Hid (adA (s.data.toList.take k) = A) ∧ Hid (adB (s.data.toList.take k) = B)) (fun _ _ i => s.size + 1 - (intOf i).toNat)
  case atStart => exact ⟨0, 1, 0, Nat.zero_le _, rfl, rfl, rfl, by decide, by decide, Lib.hid (by simp; rfl), Lib.hid (by simp; rfl)⟩
  case round =>
    obtain ⟨k, A, B, hk, rfl, rfl, rfl, hA, hB, HA, HB⟩ := hrel
    by_cases hlt : k < s.size
    · obtain ⟨x, hx⟩ : ∃ x, s[k].toNat = x := ⟨_, rfl⟩
      have hx2 : x < 256 := by rw [← hx]; exact UInt8.toNat_lt _
      have F := Lib.hid (adF_hid s k hlt A B x HA.out HB.out hx)
      have FX := Lib.hid hx
      clear HA HB
      have hli : (k : Int) < (s.size : Int) := by omega
      go_wp2_with fail
      go_round
      case rel => exact ⟨k + 1, _, _, by omega, rfl, rfl, by go_num, Nat.mod_lt _ (by decide), Nat.mod_lt _ (by decide), Lib.hid F.out.1, Lib.hid F.out.2⟩
      case measure => simp [intOf]; omega
    · obtain rfl : k = s.size := by omega
      have HJ := Lib.hid (join16 A B hA hB)
      have HV : Hid (B * 65536 + A = N) := Lib.hid (by
        have e : s.data.toList.take s.size = s.data.toList := List.take_of_length_le (by simp)
        rw [← HN.out, ← HA.out, ← HB.out, e]; rfl)
      clear HA HB HN
      go_wp2_with fail
      go_ret
      exact ⟨by rw [HJ.out, HV.out]; rfl, rfl⟩
theorem four_rowcells (n : Nat) (hn : n < 4294967296) (w : World) : (convert 47 9 (.slice (some ⟨w.heap.size, 0, none⟩) 4 4)).run Tryd.prog (w.alloc (.cells (fourArr n 4) 5)) = .ok (.string (Str (four n))) (w.alloc (.cells (fourArr n 4) 5)) := by
  have hconv := run_convert_bytes_back (P := Tryd.prog) (w.alloc (.cells (fourArr n 4) 5)) 47 9 5 ⟨w.heap.size, 0, none⟩ 4 (four n) Tryd.underlying47 Tryd.underlying5 Tryd.underlying9 (fun j hj => by
    have := four_cells n j hn hj
    rw [show (⟨w.heap.size, 0, none⟩ : Addr).add j = ⟨w.heap.size, j, none⟩ by unfold Addr.add; split <;> simp_all]
    rw [← this]; simp)
  rwa [four_length] at hconv
set_option maxHeartbeats 800000 in
theorem refFour_is (n : Nat) (w : World) (hn : n < 4294967296) (B : ByteArray) (HB : Hid (Str (four n) = B)) :
    Calls Tryd.prog 25 #[.int .u32 (n : Int)] w fun e w' => e = .returned (.string B) ∧ Below w.heap.size w w' := by
  have hcv := four_rowcells n hn w
  unfold fourArr at hcv
  rw [HB.out] at hcv
  go_enter Tryd.func25, Tryd.ntmps25
  go_wp2_with fail
  go_ret
  exact ⟨rfl, (Below.refl _ _).alloc (Nat.le_refl _) _⟩
theorem two_conv (a b : UInt8) (w : World) : (convert 47 9 (.slice (some ⟨w.heap.size, 0, none⟩) 2 2)).run Tryd.prog (w.alloc (.cells #[vb a, vb b] 5)) = .ok (.string (Str [a, b])) (w.alloc (.cells #[vb a, vb b] 5)) := by
  have hrow : Byt 5 (w.alloc (.cells #[vb a, vb b] 5)) w.heap.size [a, b] := heap_alloc_new w _
  exact hrow.conv 2 2 (Nat.le_refl _)
theorem seal_parts (k n : Nat) (t : List UInt8) (h : t.length = n) (hn : n ≤ 240) (U : ByteArray) (hU : U = Str [UInt8.ofNat k, UInt8.ofNat n] ++ Str t) : U ++ Str (List.replicate (250 - n) 0) = Str (pgBody k t) := by
  subst hU; subst h
  apply eq_of_data
  rw [append_list, append_list, Str_list, Str_list, Str_list, Str_list]
  unfold pgBody
  simp
set_option maxHeartbeats 1600000 in
theorem refSeal_yes (k : Nat) (t : ByteArray) (w : World) (h1 : 1 ≤ k) (h2 : k ≤ 15) (h3 : t.size ≤ 240) (S : ByteArray) (HS : Hid (Str (pgL k t.data.toList) = S)) :
    Calls Tryd.prog 10 #[.int .i64 (k : Int), .string t] w fun e w' => e = .returned (.tuple #[.string S, .bool true]) ∧ Below w.heap.size w w' := by
  have hcv := two_conv (UInt8.ofNat k) (UInt8.ofNat t.size) w
  have e1 : vb (UInt8.ofNat k) = .int .u8 (k : Int) := by unfold vb; rw [UInt8.toNat_ofNat', Nat.mod_eq_of_lt (by omega)]
  have e2 : vb (UInt8.ofNat t.size) = .int .u8 (t.size : Int) := by unfold vb; rw [UInt8.toNat_ofNat', Nat.mod_eq_of_lt (by omega)]
  rw [e1, e2] at hcv
  obtain ⟨H, hH⟩ : ∃ H, Str [UInt8.ofNat k, UInt8.ofNat t.size] = H := ⟨_, rfl⟩
  have hHz : H.size = 2 := by rw [← hH, Str_size]; rfl
  rw [hH] at hcv
  obtain ⟨U, hU⟩ : ∃ U, H ++ t = U := ⟨_, rfl⟩
  have hUz : U.size = 2 + t.size := by rw [← hU, ByteArray.size_append, hHz]
  have HP : Hid (U ++ Str (List.replicate (250 - t.size) 0) = Str (pgBody k t.data.toList)) := Lib.hid (seal_parts k t.size t.data.toList (by simp) h3 U (by rw [← hU, ← hH, Str_of]))
  obtain ⟨w2, hmk, hrow, hbel⟩ := made_bytes (w.alloc (.cells #[.int .u8 (k : Int), .int .u8 (t.size : Int)] 5)) (250 - t.size) (250 - t.size) (Nat.le_refl _) (by omega)
  have hcv2 := hrow.conv (250 - t.size) (250 - t.size) (by simp)
  rw [List.take_of_length_le (by simp)] at hcv2
  obtain ⟨m, hm⟩ : ∃ m, 250 - t.size = m := ⟨_, rfl⟩
  obtain ⟨Z, hZ⟩ : ∃ Z, Str (List.replicate m (0 : UInt8)) = Z := ⟨_, rfl⟩
  have hZz : Z.size = m := by rw [← hZ, Str_size]; simp
  rw [hm] at hmk hcv2 HP
  rw [hZ] at hcv2 HP
  obtain ⟨X, hX⟩ : ∃ X, Str (pgBody k t.data.toList) = X := ⟨_, rfl⟩
  have hXz : X.size = 252 := by rw [← hX, Str_size]; exact pgBody_length k _ (by simpa using h3)
  rw [hX] at HP
  have hUZ := HP.out
  have hBW := Lib.hid (chain ((Below.refl w.heap.size w).alloc (Nat.le_refl _) (.cells #[.int .u8 (k : Int), .int .u8 (t.size : Int)] 5)) hbel)
  obtain ⟨N, HN⟩ : ∃ N, Hid (adS X.data.toList = N) := ⟨_, Lib.hid rfl⟩
  have hN := adS_lt X.data.toList
  rw [HN.out] at hN
  obtain ⟨Y, HY⟩ : ∃ Y, Hid (Str (four N) = Y) := ⟨_, Lib.hid rfl⟩
  have hYz : Y.size = 4 := by rw [← HY.out, Str_size, four_length]
  have HXY : Hid (X ++ Y = S) := Lib.hid (by
    rw [← HS.out, ← HY.out, ← HN.out, ← hX, Str_append, Str_list, Str_list]; rfl)
  have hXY := HXY.out
  have hmi : 252 - (2 + (t.size : Int)) = (m : Int) := by omega
  have hs1 : (w.alloc (.cells #[.int .u8 (k : Int), .int .u8 (t.size : Int)] 5)).heap.size = w.heap.size + 1 := by simp
  rw [hs1] at hmk hcv2
  clear hrow hbel e1 e2 hH HP hm hZ hX HS hs1
  go_enter Tryd.func10, Tryd.ntmps10
  go_wp2_with fail
  refine (refSum7_any X _ (by omega) N HN).mono ?_
  rintro e w3 ⟨rfl, rfl⟩
  go_wp2_with fail
  refine (refFour_is N _ hN Y HY).mono ?_
  rintro e w4 ⟨rfl, b4⟩
  have BB := Lib.hid (chain hBW.out b4)
  clear b4
  go_wp2_with fail
  go_ret2
  exact ⟨by rw [← hXY]; rfl, BB.out⟩
set_option maxHeartbeats 800000 in
theorem refSeal_no (k : Int) (t : ByteArray) (w : World) (h : sealB k t = false) :
    Calls Tryd.prog 10 #[.int .i64 k, .string t] w fun e w' => e = .returned (.tuple #[.string ⟨#[]⟩, .bool false]) ∧ w = w' := by
  have hc : k < 1 ∨ (1 ≤ k ∧ 15 < k) ∨ (1 ≤ k ∧ k ≤ 15 ∧ 240 < (t.size : Int)) := by
    have : ¬ (1 ≤ k ∧ k ≤ 15 ∧ t.size ≤ 240) := fun hh => by
      rw [(sealB_iff _ _).2 hh] at h; cases h
    omega
  clear h
  rcases hc with h0 | ⟨h0, h1⟩ | ⟨h0, h1, h2⟩
  all_goals
    go_enter Tryd.func10, Tryd.ntmps10
    go_wp2_with fail
    go_ret2
    exact ⟨rfl, rfl⟩
theorem refSeal_any (k : Int) (t : ByteArray) (w : World) :
    Calls Tryd.prog 10 #[.int .i64 k, .string t] w fun e w' => e = .returned (.tuple #[.string (sealS k t), .bool (sealB k t)]) ∧ Below w.heap.size w w' := by
  cases h : sealB k t
  · refine (refSeal_no k t w h).mono ?_
    rintro e w' ⟨rfl, rfl⟩
    exact ⟨by unfold sealS; rw [h]; rfl, Below.refl _ _⟩
  · obtain ⟨h1, h2, h3⟩ := (sealB_iff k t).1 h
    obtain ⟨n, rfl⟩ := Int.eq_ofNat_of_zero_le (show 0 ≤ k by omega)
    refine (refSeal_yes n t w (by omega) (by omega) h3 _ (Lib.hid rfl)).mono ?_
    rintro e w' ⟨rfl, hb⟩
    exact ⟨by unfold sealS; rw [h]; rfl, hb⟩
set_option maxHeartbeats 800000 in
theorem refOpen_len (b : ByteArray) (w : World) (h : b.size ≠ 256) :
    Calls Tryd.prog 12 #[.string b] w fun e w' => e = .returned (.tuple #[.int .i64 0, .string ⟨#[]⟩, .int .i64 2]) ∧ Below w.heap.size w w' := by
  have h1 : ((b.size : Int) == 256) = false := by simpa using (fun hc : (b.size : Int) = 256 => h (by omega))
  have h2 : ((b.size : Int) != 256) = true := by simp [bne, h1]
  go_enter Tryd.func12, Tryd.ntmps12
  go_wp2_with fail
  go_ret3
  exact ⟨rfl, Below.refl _ _⟩
set_option maxHeartbeats 1600000 in
set_option maxRecDepth 20000 in
theorem refOpen_sum (b : ByteArray) (w : World) (h : b.size = 256) (hs : opSum b.data.toList = false) :
    Calls Tryd.prog 12 #[.string b] w fun e w' => e = .returned (.tuple #[.int .i64 0, .string ⟨#[]⟩, .int .i64 15]) ∧ Below w.heap.size w w' := by
  obtain ⟨X, HX⟩ : ∃ X, b.extract 0 252 = X := ⟨_, rfl⟩
  obtain ⟨T, HT⟩ : ∃ T, b.extract 252 256 = T := ⟨_, rfl⟩
  obtain ⟨N, HN⟩ : ∃ N, Hid (adS X.data.toList = N) := ⟨_, Lib.hid rfl⟩
  have hN := adS_lt X.data.toList
  rw [HN.out] at hN
  obtain ⟨Y, HY⟩ : ∃ Y, Hid (Str (four N) = Y) := ⟨_, Lib.hid rfl⟩
  have hXz : X.size ≤ 9223372036854775807 := by rw [← HX, ByteArray.size_extract]; omega
  have hne : (Y = T) = False := by
    apply eq_false
    intro hc
    have e1 : T.data.toList = Y.data.toList := by rw [hc]
    rw [← HT, drop_ext b h, ← HY.out, Str_list, ← HN.out, ← HX, take_ext] at e1
    unfold opSum at hs
    rw [e1] at hs
    simp at hs
  have hne1 : (Y.toList = T.toList) = False := by rw [list_inj]; exact hne
  have hne2 : (Y.toList == T.toList) = false := by rw [list_beq]; simp [hne]
  have hne3 : (Y.toList != T.toList) = true := by simp [bne, hne2]
  clear hs hne
  go_enter Tryd.func12, Tryd.ntmps12
  go_wp2_with fail
  go_region_with (first | (go_at_call 14; refine (refSum7_any X _ hXz N HN).mono ?_; rintro e w8 ⟨rfl, rfl⟩) | (go_at_call 25; refine (refFour_is N _ hN Y HY).mono ?_; rintro e w9 ⟨rfl, b9⟩))
  all_goals
    go_wp2_with fail
    go_ret3
    exact ⟨rfl, chain (drewN_below (Below.refl _ _) 1) b9⟩
set_option maxHeartbeats 1600000 in
set_option maxRecDepth 20000 in
theorem refOpen_big (b : ByteArray) (w : World) (h : b.size = 256) (hs : opSum b.data.toList = true) (hq : 240 < opSize b.data.toList) :
    Calls Tryd.prog 12 #[.string b] w fun e w' => e = .returned (.tuple #[.int .i64 0, .string ⟨#[]⟩, .int .i64 2]) ∧ Below w.heap.size w w' := by
  obtain ⟨X, HX⟩ : ∃ X, b.extract 0 252 = X := ⟨_, rfl⟩
  obtain ⟨T, HT⟩ : ∃ T, b.extract 252 256 = T := ⟨_, rfl⟩
  obtain ⟨N, HN⟩ : ∃ N, Hid (adS X.data.toList = N) := ⟨_, Lib.hid rfl⟩
  have hN := adS_lt X.data.toList
  rw [HN.out] at hN
  have hXz : X.size ≤ 9223372036854775807 := by rw [← HX, ByteArray.size_extract]; omega
  have HY : Hid (Str (four N) = T) := Lib.hid (by
    apply eq_of_data
    rw [Str_list, ← HN.out, ← HT, drop_ext b h, ← HX, take_ext]
    exact (eq_of_beq hs).symm)
  obtain ⟨K, hK⟩ : ∃ K, opKind b.data.toList = K := ⟨_, rfl⟩
  obtain ⟨Z, hZ⟩ : ∃ Z, opSize b.data.toList = Z := ⟨_, rfl⟩
  have hKl := opKind_lt b.data.toList
  have hZl := opSize_lt b.data.toList
  rw [hK] at hKl
  rw [hZ] at hZl
  have x0 := byte_nat b 0 K hK (by omega)
  have x1 := byte_nat b 1 Z hZ (by omega)
  rw [hZ] at hq
  have hqi : (240 : Int) < (Z : Int) := by omega
  clear hK hZ
  go_enter Tryd.func12, Tryd.ntmps12
  go_wp2_with fail
  go_region_with (first | (go_at_call 14; refine (refSum7_any X _ hXz N HN).mono ?_; rintro e w8 ⟨rfl, rfl⟩) | (go_at_call 25; refine (refFour_is N _ hN T HY).mono ?_; rintro e w9 ⟨rfl, b9⟩))
  all_goals
    have B9 := Lib.hid (chain (drewN_below (Below.refl w.heap.size w) 1) b9)
    clear b9
    go_wp2_with fail
    go_ret3
    exact ⟨rfl, B9.out⟩
set_option maxHeartbeats 1600000 in
set_option maxRecDepth 20000 in
theorem refOpen_small (b S : ByteArray) (w : World) (ok : Bool) (k2 : Int) (O2 : ByteArray) (e2 : Int) (h : b.size = 256) (hs : opSum b.data.toList = true) (hq : opSize b.data.toList ≤ 240)
    (HSL : Hid (∀ w, Calls Tryd.prog 10 #[.int .i64 (opKind b.data.toList : Int), .string (Str (opText b.data.toList))] w fun e w' => e = .returned (.tuple #[.string S, .bool ok]) ∧ Below w.heap.size w w'))
    (HC : Hid ((ok = false ∧ k2 = 0 ∧ O2 = ⟨#[]⟩ ∧ e2 = 2) ∨ (ok = true ∧ S ≠ b ∧ k2 = 0 ∧ O2 = ⟨#[]⟩ ∧ e2 = 2) ∨ (ok = true ∧ S = b ∧ k2 = (opKind b.data.toList : Int) ∧ O2 = Str (opText b.data.toList) ∧ e2 = 0))) :
    Calls Tryd.prog 12 #[.string b] w fun e w' => e = .returned (.tuple #[.int .i64 k2, .string O2, .int .i64 e2]) ∧ Below w.heap.size w w' := by
  obtain ⟨X, HX⟩ : ∃ X, b.extract 0 252 = X := ⟨_, rfl⟩
  obtain ⟨T, HT⟩ : ∃ T, b.extract 252 256 = T := ⟨_, rfl⟩
  obtain ⟨N, HN⟩ : ∃ N, Hid (adS X.data.toList = N) := ⟨_, Lib.hid rfl⟩
  have hN := adS_lt X.data.toList
  rw [HN.out] at hN
  have hXz : X.size ≤ 9223372036854775807 := by rw [← HX, ByteArray.size_extract]; omega
  have HY : Hid (Str (four N) = T) := Lib.hid (by
    apply eq_of_data
    rw [Str_list, ← HN.out, ← HT, drop_ext b h, ← HX, take_ext]
    exact (eq_of_beq hs).symm)
  obtain ⟨K, hK⟩ : ∃ K, opKind b.data.toList = K := ⟨_, rfl⟩
  obtain ⟨Z, hZ⟩ : ∃ Z, opSize b.data.toList = Z := ⟨_, rfl⟩
  have hKl := opKind_lt b.data.toList
  have hZl := opSize_lt b.data.toList
  rw [hK] at hKl
  rw [hZ] at hZl
  have x0 := byte_nat b 0 K hK (by omega)
  have x1 := byte_nat b 1 Z hZ (by omega)
  have HO : Str (opText b.data.toList) = b.extract 2 (2 + Z) := by
    apply eq_of_data
    rw [Str_list, extract_list, show 2 + Z - 2 = Z by omega, ← hZ]; rfl
  obtain ⟨O, hO⟩ : ∃ O, b.extract 2 (2 + Z) = O := ⟨_, rfl⟩
  rw [HO, hO, hK] at HSL HC
  rw [hZ] at hq
  have hqi : (Z : Int) ≤ 240 := by omega
  clear hK hZ HO
  go_enter Tryd.func12, Tryd.ntmps12
  go_wp2_with fail
  go_region_with (first | (go_at_call 14; refine (refSum7_any X _ hXz N HN).mono ?_; rintro e w8 ⟨rfl, rfl⟩) | (go_at_call 25; refine (refFour_is N _ hN T HY).mono ?_; rintro e w9 ⟨rfl, b9⟩))
  all_goals
    have B9 := Lib.hid (chain (drewN_below (Below.refl w.heap.size w) 1) b9)
    clear b9
    go_wp2_with fail
    refine (HSL.out _).mono ?_
    rintro e w10 ⟨rfl, b10⟩
    replace B9 := Lib.hid (chain B9.out b10)
    clear b10
    rcases HC.out with ⟨rfl, rfl, rfl, rfl⟩ | ⟨rfl, hne, rfl, rfl, rfl⟩ | ⟨rfl, rfl, rfl, rfl, rfl⟩
    · clear HC HSL
      go_wp2_with fail
      go_ret3
      exact ⟨rfl, B9.out⟩
    · have hne1 : (S.toList = b.toList) = False := by rw [list_inj]; exact eq_false hne
      have hne2 : (S.toList == b.toList) = false := by rw [list_beq]; simp [hne]
      have hne3 : (S.toList != b.toList) = true := by simp [bne, hne2]
      clear HC HSL hne
      go_wp2_with fail
      go_ret3
      exact ⟨rfl, B9.out⟩
    · clear HC HSL
      go_wp2_with fail
      go_ret3
      exact ⟨by rw [← hO]; rfl, B9.out⟩
theorem refOpen_any (b : ByteArray) (w : World) :
    Calls Tryd.prog 12 #[.string b] w fun e w' => e = .returned (.tuple #[.int .i64 (opK b.data.toList : Int), .string (Str (opT b.data.toList)), .int .i64 (opE b.data.toList : Int)]) ∧ Below w.heap.size w w' := by
  by_cases hl : b.size = 256
  · have hl2 : b.data.toList.length = 256 := by rw [size_list]; exact hl
    cases hs : opSum b.data.toList
    · have := refOpen_sum b w hl hs
      have e : opE b.data.toList = 15 := by unfold opE; rw [if_pos hl2, hs]; rfl
      unfold opK opT
      rw [e]
      exact this
    · by_cases hq : opSize b.data.toList ≤ 240
      · refine refOpen_small b _ w _ _ _ _ hl hs hq (Lib.hid fun w => refSeal_any _ _ w) (Lib.hid ?_)
        cases hf : opFine b.data.toList
        · have e : opE b.data.toList = 2 := by unfold opE; rw [if_pos hl2, hs, hf]; rfl
          unfold opK opT
          rw [e]
          cases hb : sealB (opKind b.data.toList : Int) (Str (opText b.data.toList))
          · exact .inl ⟨rfl, rfl, rfl, rfl⟩
          · refine .inr (.inl ⟨rfl, ?_, rfl, rfl, rfl⟩)
            intro hc
            have hk := (sealB_iff _ _).1 hb
            have e1 : b.data.toList = pgL (opKind b.data.toList) (opText b.data.toList) := by
              have := congrArg (fun x : ByteArray => x.data.toList) hc
              simp only [sealS, if_pos hb] at this
              rw [Str_list, Str_list, Int.toNat_natCast] at this
              exact this.symm
            have hb2 := pg_back (opKind b.data.toList) (opText b.data.toList) (by omega) (by omega) (by have := hk.2.2; rwa [Str_size] at this)
            rw [← e1] at hb2
            rw [hb2.1] at e
            cases e
        · have e : opE b.data.toList = 0 := by unfold opE; rw [if_pos hl2, hs, hf]; rfl
          obtain ⟨a1, a2, a3, a4⟩ := pg_again _ e
          have hb : sealB (opKind b.data.toList : Int) (Str (opText b.data.toList)) = true := (sealB_iff _ _).2 ⟨by omega, by omega, by rw [Str_size]; exact a4⟩
          unfold opK opT
          rw [e]
          refine .inr (.inr ⟨hb, ?_, rfl, rfl, rfl⟩)
          unfold sealS
          rw [if_pos hb]
          apply eq_of_data
          rw [Str_list, Str_list, Int.toNat_natCast, a1]
      · have e : opE b.data.toList = 2 := by
          have hf : opFine b.data.toList = false := by
            rw [Bool.eq_false_iff]
            intro hc
            exact hq ((opFine_iff _).1 hc).2.2.1
          unfold opE
          rw [if_pos hl2, hs, hf]
          rfl
        have := refOpen_big b w hl hs (by omega)
        unfold opK opT
        rw [e]
        exact this
  · have := refOpen_len b w hl
    have e : opE b.data.toList = 2 := by unfold opE; rw [if_neg (by rw [size_list]; exact hl)]
    unfold opK opT
    rw [e]
    exact this
end Go.Proofs.YtojofakfnlofhaaDoor
