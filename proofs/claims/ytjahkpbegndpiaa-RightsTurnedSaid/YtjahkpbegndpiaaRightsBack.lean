import Derived.Test.YtjahkpbegndpiaaLetFacts
namespace Go.Proofs.Ytjahkpbegndpiaa
open Go.RowKit
set_option linter.unusedVariables false

theorem maskOk_cases (m : Int) : (maskOk m = true ∧ 0 ≤ m ∧ m < 65536) ∨ (maskOk m = false ∧ m < 0) ∨ (maskOk m = false ∧ 0 ≤ m ∧ 65536 ≤ m) := by
  unfold maskOk
  by_cases c1 : 0 ≤ m
  · by_cases c2 : m < 65536
    · exact .inl ⟨by simp; omega, c1, c2⟩
    · exact .inr (.inr ⟨by simp; omega, c1, by omega⟩)
  · exact .inr (.inl ⟨by simp; omega, by omega⟩)
/-- What follows on the second text. -/
def Tail (s : ByteArray) : Prop :=
  (parB s = false ∧ parN s = 0) ∨ (∃ n : Nat, n ≤ 65535 ∧ parB s = true ∧ parN s = (n : Int) ∧ pc 16 n = s.size)

set_option maxHeartbeats 2000000 in
theorem rightsBack_yes (m p : Nat) (t s : ByteArray) (w : World) (hm : m ≤ 65535) (hs : s.size ≤ 140737488351232) (ht : Hid (textS (m : Int) = t)) (hmk : Hid (maskOk (m : Int) = true)) (htn : Hid (parN t = (m : Int))) (htb : Hid (parB t = true)) (hc : Hid (cntN (m : Int) = p)) (hp1 : p ≤ t.size) (hp2 : t.size ≤ p) (hts : t.size ≤ 16)
    (hr : Hid (∀ (i : Nat) (h : i + 1 < t.size), (t[i]'(by omega)).toNat < (t[i + 1]'h).toNat)) (htail : Tail s) :
    Calls Try.prog 5 #[.int .i64 (m : Int), .string s] w fun e w' => e = .returned (.bool true) ∧ Below w.heap.size w w' := by
  have TL := Lib.hid htail
  clear htail
  go_enter Try.func5, Try.ntmps5
  go_wp2_with fail
  refine (examples_any _).mono ?_
  rintro e w1 ⟨rfl, bb⟩
  go_wp2_with fail
  refine (text_any _ _).mono ?_
  rw [ht.out, hmk.out]
  rintro e w2 ⟨rfl, b2⟩
  replace bb := chain bb b2
  clear b2
  go_wp2_with fail
  refine (parse_any _ _ (by omega)).mono ?_
  rw [htn.out, htb.out]
  rintro e w3 ⟨rfl, b3⟩
  replace bb := chain bb b3
  clear b3
  go_wp2_with fail
  refine (count_any _ _).mono ?_
  rw [hc.out]
  rintro e w4 ⟨rfl, rfl⟩
  go_wp2_with fail
  go_loopw [4, 10] (fun _ i wr => ∃ j : Nat, j ≤ 16 ∧ i = .int .i64 ((j : Int) + 1) ∧ Below w.heap.size w wr) (fun _ i _ => 17 - (intOf i).toNat)
  case atStart => exact ⟨0, by omega, rfl, bb⟩
  case round =>
    obtain ⟨j, hk, rfl, hbw⟩ := hrel
    by_cases hlt : j + 1 < t.size
    · have hj : j < t.size := by omega
      have hri : ((t[j]'hj).toNat : Int) < ((t[j + 1]'hlt).toNat : Int) := by have := hr.out j hlt; omega
      have hlt' : (j : Int) + 1 < t.size := by omega
      have hge : (0 : Int) ≤ (j : Int) + 1 := by omega
      have hge0 : (0 : Int) ≤ (j : Int) := by omega
      have hlt0 : (j : Int) < t.size := by omega
      have hw0 : IntKind.i64.wrap (j : Int) = (j : Int) := by rw [IntKind.wrap_i64]; omega
      have hn1 : ((j : Int) + 1).toNat = j + 1 := by omega
      go_wp2_with fail
      go_region
      all_goals go_wp2_with fail
      go_roundw
      case rel => exact ⟨j + 1, by omega, by go_num, hbw.drew⟩
      case measure => simp [intOf]; omega
    · have hlt' : (t.size : Int) ≤ (j : Int) + 1 := by omega
      rcases TL.out with ⟨hb, hn⟩ | ⟨n, hn16, hb, hn, hpc⟩
      · have HB := Lib.hid hb
        have HN := Lib.hid hn
        clear hb hn hlt
        go_wp2_with fail
        refine (parse_any _ _ (by omega)).mono ?_
        rw [HB.out, HN.out]
        rintro e w5 ⟨rfl, b5⟩
        have bc := chain hbw b5
        clear b5 hbw
        go_wp2_with fail
        refine (text_any _ _).mono ?_
        rintro e w6 ⟨rfl, b6⟩
        replace bc := chain bc b6
        clear b6
        go_wp2_with fail
        go_ret
        exact ⟨ret_true (by simp; omega), bc⟩
      · have HB := Lib.hid hb
        have HN := Lib.hid hn
        have TS := Lib.hid (textS_size n hn16)
        have MO := Lib.hid (maskOk_nat n hn16)
        have CN := Lib.hid (cntN_nat n hn16)
        have PC := Lib.hid hpc
        clear hb hn hlt hpc
        go_wp2_with fail
        refine (parse_any _ _ (by omega)).mono ?_
        rw [HB.out, HN.out]
        rintro e w5 ⟨rfl, b5⟩
        have bc := chain hbw b5
        clear b5 hbw
        go_wp2_with fail
        refine (text_any _ _).mono ?_
        rw [MO.out]
        have z1 : (textS (n : Int)).size ≤ s.size := by rw [TS.out, PC.out]; exact Nat.le_refl _
        have z2 : s.size ≤ (textS (n : Int)).size := by rw [TS.out, PC.out]; exact Nat.le_refl _
        have CN2 := Lib.hid (show cntN (n : Int) = (s.size : Int) by rw [CN.out, PC.out])
        generalize textS (n : Int) = u at z1 z2 ⊢
        rintro e w6 ⟨rfl, b6⟩
        replace bc := chain bc b6
        clear b6
        go_wp2_with fail
        refine (count_any _ _).mono ?_
        rw [CN2.out]
        rintro e w7 ⟨rfl, rfl⟩
        go_wp2_with fail
        go_ret
        exact ⟨ret_true (by simp), bc⟩

set_option maxHeartbeats 2000000 in
theorem rightsBack_no (m : Int) (s : ByteArray) (w : World) (hs : s.size ≤ 140737488351232) (hmk : Hid (maskOk m = false)) (hm : m < 0 ∨ (0 ≤ m ∧ 65536 ≤ m)) (htail : Tail s) :
    Calls Try.prog 5 #[.int .i64 m, .string s] w fun e w' => e = .returned (.bool true) ∧ Below w.heap.size w w' := by
  have TL := Lib.hid htail
  clear htail
  rcases hm with hm | ⟨hm, hm'⟩
  all_goals
    rcases TL.out with ⟨hb, hn⟩ | ⟨n, hn16, hb, hn, hpc⟩
    all_goals
      have HB := Lib.hid hb
      have HN := Lib.hid hn
      clear hb hn
      first
        | (have TS := Lib.hid (textS_size n hn16)
           have MO := Lib.hid (maskOk_nat n hn16)
           have CN := Lib.hid (cntN_nat n hn16)
           have PC := Lib.hid hpc
           clear hpc)
        | skip
      go_enter Try.func5, Try.ntmps5
      go_wp2_with fail
      refine (examples_any _).mono ?_
      rintro e w1 ⟨rfl, bc⟩
      go_wp2_with fail
      refine (text_any _ _).mono ?_
      rw [hmk.out]
      rintro e w2 ⟨rfl, b2⟩
      replace bc := chain bc b2
      clear b2
      go_wp2_with fail
      refine (parse_any _ _ (by omega)).mono ?_
      rw [HB.out, HN.out]
      rintro e w5 ⟨rfl, b5⟩
      replace bc := chain bc b5
      clear b5
      go_wp2_with fail
      first
        | (have mo := MO.out
           refine (text_any _ _).mono ?_
           rw [mo]
           clear mo
           have z1 : (textS (n : Int)).size ≤ s.size := Nat.le_of_eq (TS.out.trans PC.out)
           have z2 : s.size ≤ (textS (n : Int)).size := Nat.le_of_eq (TS.out.trans PC.out).symm
           have CN2 := Lib.hid (show cntN (n : Int) = (s.size : Int) by rw [CN.out, PC.out])
           generalize textS (n : Int) = u at z1 z2 ⊢
           rintro e w6 ⟨rfl, b6⟩
           replace bc := chain bc b6
           clear b6
           go_wp2_with fail
           refine (count_any _ _).mono ?_
           rw [CN2.out]
           rintro e w7 ⟨rfl, rfl⟩
           go_wp2_with fail)
        | (refine (text_any _ _).mono ?_
           rintro e w6 ⟨rfl, b6⟩
           replace bc := chain bc b6
           clear b6
           go_wp2_with fail)
      all_goals go_ret
      all_goals refine ⟨ret_true ?_, bc⟩
      all_goals first | (simp; done) | (simp; omega)
theorem rightsBack_law (a0 : Int) (a1 : ByteArray) (w : World) (w0 : (Lit.int .i64 a0).wf = true) (z1 : a1.size ≤ 140737488351232) :
    Calls Try.prog 5 #[.int .i64 a0, .string a1] w fun e w' => e = .returned (.bool true) ∧ Below w.heap.size w w' := by
  have ht : Tail a1 := par_facts a1
  rcases maskOk_cases a0 with ⟨hk, h0, h1⟩ | ⟨hk, h0⟩ | ⟨hk, h0, h1⟩
  · obtain ⟨m, rfl⟩ := Int.eq_ofNat_of_zero_le h0
    have hm : m ≤ 65535 := by omega
    have hz := textS_size m hm
    exact rightsBack_yes m _ _ a1 w hm z1 (Lib.hid rfl) (Lib.hid hk) (Lib.hid (textS_par m hm).1) (Lib.hid (textS_par m hm).2) (Lib.hid (cntN_nat m hm)) (Nat.le_of_eq hz.symm) (Nat.le_of_eq hz) (by rw [hz]; exact pc_le 16 m) (Lib.hid (textS_rise m hm)) ht
  · exact rightsBack_no a0 a1 w z1 (Lib.hid hk) (.inl h0) ht
  · exact rightsBack_no a0 a1 w z1 (Lib.hid hk) (.inr ⟨h0, h1⟩) ht
end Go.Proofs.Ytjahkpbegndpiaa
