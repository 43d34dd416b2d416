import Derived.Test.YtojofakfnlofhaaDoorPageBackLaw
import Derived.Test.YtojofakfnlofhaaDoorBuf
namespace Go.Proofs.YtojofakfnlofhaaDoor
open Go.RowKit
set_option linter.unusedVariables false
set_option linter.unusedSimpArgs false
theorem bytes_opened (w : World) (b : ByteArray) : ∃ cap w2 g, (convert 9 47 (.string b)).run Tryd.prog w = .ok (.slice (some ⟨g, 0, none⟩) b.size cap) w2 ∧ Buf w2 g b.data.toList ∧ Below w.heap.size w w2 ∧ w.heap.size ≤ g :=
  ⟨_, _, _, run_bytes_of_string (P := Tryd.prog) w 9 47 5 b Tryd.underlying9 Tryd.underlying47 Tryd.underlying5, Buf.made w b _, ((Below.refl _ _).drew).alloc (Nat.le_refl _) _, Nat.le_refl _⟩
set_option maxHeartbeats 1600000 in
theorem pageByte_no (k a b : Int) (t : ByteArray) (w : World) (h : sealB k t = false) :
    Calls Tryd.prog 6 #[.int .i64 k, .string t, .int .i64 a, .int .u8 b] w fun e w' => e = .returned (.bool true) ∧ Below w.heap.size w w' := by
  have S1 := Lib.hid fun w => seal_any k t w
  have e1 : sealE k t = 1 := by unfold sealE; rw [h]; rfl
  rw [e1] at S1
  go_enter Tryd.func6, Tryd.ntmps6
  go_wp2_with fail
  refine (examples_any _).mono ?_
  rintro e w1 ⟨rfl, b1⟩
  go_wp2_with fail
  refine (S1.out _).mono ?_
  rintro e w2 ⟨rfl, b2⟩
  go_wp2_with fail
  go_ret
  exact ⟨rfl, chain b1 b2⟩
set_option maxHeartbeats 3200000 in
set_option maxRecDepth 20000 in
theorem pageByte_yes (k a : Int) (b y i : Nat) (t s : ByteArray) (w : World) (hz : s.size = 256) (hso : opSum s.data.toList = true) (a0 : -9223372036854775808 ≤ a) (a1 : a ≤ 9223372036854775807) (hb : b < 256)
    (hy : (b = 0 ∧ y = 1) ∨ (1 ≤ (b : Int) ∧ y = b)) (hi : i < 256) (ha : (a < 0 ∧ -((a + 1).tmod 256) = (i : Int)) ∨ (0 ≤ a ∧ a % 256 = (i : Int)))
    (S1 : Hid (∀ w, Calls Tryd.prog 9 #[.int .i64 k, .string t] w fun e' w' => e' = .returned (.tuple #[.string s, .int .i64 0]) ∧ Below w.heap.size w w')) :
    Calls Tryd.prog 6 #[.int .i64 k, .string t, .int .i64 a, .int .u8 (b : Int)] w fun e w' => e = .returned (.bool true) ∧ Below w.heap.size w w' := by
  have hzi : (s.size : Int) = 256 := by omega
  have hl : s.data.toList.length = 256 := by rw [size_list]; exact hz
  obtain ⟨x, hx⟩ : ∃ x, s.data.toList[i]'(by omega) = x := ⟨_, rfl⟩
  have HO := Lib.hid hso
  have HL := Lib.hid hl
  have HX : Hid (∀ h : i < s.data.toList.length, s.data.toList[i]'h = x) := Lib.hid fun h => hx
  clear hso hx hl
  rcases hy with ⟨rfl, rfl⟩ | ⟨hb1, rfl⟩
  · rcases ha with ⟨ha, hr⟩ | ⟨ha, hr⟩
    all_goals
      go_enter Tryd.func6, Tryd.ntmps6
      go_wp2_with fail
      refine (examples_any _).mono ?_
      rintro e w1 ⟨rfl, b1⟩
      go_wp2_with fail
      refine (S1.out _).mono ?_
      rintro e w2 ⟨rfl, b2⟩
      have bb := chain b1 b2
      have hw1 := bb.size
      clear b1 b2
      obtain ⟨cap, w3, g, hcv, hbuf, b3, hgw⟩ := bytes_opened w2 s
      have hc := hbuf.cell i (by rw [HL.out]; exact hi)
      have hf := hbuf.free i (by rw [HL.out]; exact hi)
      rw [HX.out _] at hc
      have hby : (((x.toNat : Int) + 1) % 256) = (((x + UInt8.ofNat 1).toNat : Nat) : Int) := by
        rw [UInt8.toNat_add, UInt8.toNat_ofNat']
        omega
      have hne : x + UInt8.ofNat 1 ≠ x := by
        intro h
        have := congrArg UInt8.toNat h
        rw [UInt8.toNat_add, UInt8.toNat_ofNat'] at this
        have := x.toNat_lt
        omega
      have hb2 := Lib.hid (hbuf.set i (by rw [HL.out]; exact hi) (x + UInt8.ofNat 1))
      have hcv2 := hb2.out.conv cap
      rw [List.length_set, HL.out] at hcv2
      have FE : Hid (opE (Str (s.data.toList.set i (x + UInt8.ofNat 1))).data.toList = 15) := Lib.hid (by
        rw [Str_list]
        refine pg_byte _ HL.out HO.out i hi _ ?_
        rw [HX.out]
        exact hne)
      have bb2 : Hid (Below w.heap.size w (w3.setCell ⟨g, i, none⟩ (.int .u8 (((x + UInt8.ofNat 1).toNat : Nat) : Int)))) := Lib.hid ((chain bb b3).setCell (Nat.le_trans hw1 hgw) _)
      generalize Str (s.data.toList.set i (x + UInt8.ofNat 1)) = T at *
      generalize (x + UInt8.ofNat 1).toNat = z at *
      clear hbuf hb2 hne HX HO bb b3
      go_wp2_with fail
      refine (open_any T _).mono ?_
      rw [FE.out]
      rintro e w9 ⟨rfl, b9⟩
      have bb3 := Lib.hid (chain bb2.out b9)
      clear b9
      go_wp2_with fail
      go_ret
      exact ⟨rfl, bb3.out⟩
  · rcases ha with ⟨ha, hr⟩ | ⟨ha, hr⟩
    all_goals
      go_enter Tryd.func6, Tryd.ntmps6
      go_wp2_with fail
      refine (examples_any _).mono ?_
      rintro e w1 ⟨rfl, b1⟩
      go_wp2_with fail
      refine (S1.out _).mono ?_
      rintro e w2 ⟨rfl, b2⟩
      have bb := chain b1 b2
      have hw1 := bb.size
      clear b1 b2
      obtain ⟨cap, w3, g, hcv, hbuf, b3, hgw⟩ := bytes_opened w2 s
      have hc := hbuf.cell i (by rw [HL.out]; exact hi)
      have hf := hbuf.free i (by rw [HL.out]; exact hi)
      rw [HX.out _] at hc
      have hby : (((x.toNat : Int) + (y : Int)) % 256) = (((x + UInt8.ofNat y).toNat : Nat) : Int) := by
        rw [UInt8.toNat_add, UInt8.toNat_ofNat']
        omega
      have hne : x + UInt8.ofNat y ≠ x := by
        intro h
        have := congrArg UInt8.toNat h
        rw [UInt8.toNat_add, UInt8.toNat_ofNat'] at this
        have := x.toNat_lt
        omega
      have hb2 := Lib.hid (hbuf.set i (by rw [HL.out]; exact hi) (x + UInt8.ofNat y))
      have hcv2 := hb2.out.conv cap
      rw [List.length_set, HL.out] at hcv2
      have FE : Hid (opE (Str (s.data.toList.set i (x + UInt8.ofNat y))).data.toList = 15) := Lib.hid (by
        rw [Str_list]
        refine pg_byte _ HL.out HO.out i hi _ ?_
        rw [HX.out]
        exact hne)
      have bb2 : Hid (Below w.heap.size w (w3.setCell ⟨g, i, none⟩ (.int .u8 (((x + UInt8.ofNat y).toNat : Nat) : Int)))) := Lib.hid ((chain bb b3).setCell (Nat.le_trans hw1 hgw) _)
      generalize Str (s.data.toList.set i (x + UInt8.ofNat y)) = T at *
      generalize (x + UInt8.ofNat y).toNat = z at *
      clear hbuf hb2 hne HX HO bb b3
      go_wp2_with fail
      refine (open_any T _).mono ?_
      rw [FE.out]
      rintro e w9 ⟨rfl, b9⟩
      have bb3 := Lib.hid (chain bb2.out b9)
      clear b9
      go_wp2_with fail
      go_ret
      exact ⟨rfl, bb3.out⟩
theorem pageByte_law (a0 : Int) (a1 : ByteArray) (a2 a3 : Int) (w : World) (_ : (Lit.int .i64 a0).wf = true) (z1 : a1.size ≤ 140737488351232) (v2 : (Lit.int .i64 a2).wf = true) (v3 : (Lit.int .u8 a3).wf = true) :
    Calls Tryd.prog 6 #[.int .i64 a0, .string a1, .int .i64 a2, .int .u8 a3] w fun e w' => e = .returned (.bool true) ∧ Below w.heap.size w w' := by
  cases h : sealB a0 a1
  · exact pageByte_no a0 a2 a3 a1 w h
  · simp only [Lit.wf, Bool.and_eq_true, decide_eq_true_eq] at v2 v3
    have m1 : IntKind.i64.min = -9223372036854775808 := rfl
    have m2 : IntKind.i64.max = 9223372036854775807 := rfl
    have m3 : IntKind.u8.min = 0 := rfl
    have m4 : IntKind.u8.max = 255 := rfl
    rw [m1, m2] at v2
    rw [m3, m4] at v3
    obtain ⟨b, rfl⟩ := Int.eq_ofNat_of_zero_le v3.1
    have h3 := ((sealB_iff _ _).1 h).2.2
    have e1 : sealE a0 a1 = 0 := by unfold sealE; rw [h]; rfl
    have e2 : sealS a0 a1 = Str (pgL a0.toNat a1.data.toList) := by unfold sealS; rw [h]; rfl
    have S1 := Lib.hid fun w => seal_any a0 a1 w
    rw [e1] at S1
    have hz : (sealS a0 a1).size = 256 := by rw [e2, Str_size]; exact pgL_length _ _ (by rw [size_list]; exact h3)
    have ho : opSum (sealS a0 a1).data.toList = true := by rw [e2, Str_list]; exact pg_opSum _ _ (by rw [size_list]; exact h3)
    obtain ⟨y, hy⟩ : ∃ y : Nat, (b = 0 ∧ y = 1) ∨ (1 ≤ (b : Int) ∧ y = b) := by
      by_cases h0 : b = 0
      · exact ⟨1, .inl ⟨h0, rfl⟩⟩
      · exact ⟨b, .inr ⟨by omega, rfl⟩⟩
    obtain ⟨i, hi, ha⟩ : ∃ i : Nat, i < 256 ∧ ((a2 < 0 ∧ -((a2 + 1).tmod 256) = (i : Int)) ∨ (0 ≤ a2 ∧ a2 % 256 = (i : Int))) := by
      by_cases h0 : a2 < 0
      · refine ⟨((-(a2 + 1)) % 256).toNat, by omega, .inl ⟨h0, ?_⟩⟩
        have e : (a2 + 1).tmod 256 = -((-(a2 + 1)).tmod 256) := by rw [Int.neg_tmod, Int.neg_neg]
        rw [e, Int.tmod_eq_emod_of_nonneg (by omega)]; omega
      · exact ⟨(a2 % 256).toNat, by omega, .inr ⟨by omega, by omega⟩⟩
    exact pageByte_yes a0 a2 b y i a1 _ w hz ho v2.1 v2.2 (by omega) hy hi ha S1
end Go.Proofs.YtojofakfnlofhaaDoor
