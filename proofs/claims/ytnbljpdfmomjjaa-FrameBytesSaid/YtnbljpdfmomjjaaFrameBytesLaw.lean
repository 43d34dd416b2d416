import Derived.Test.YtnbljpdfmomjjaaEx20
import Derived.Outline
namespace Go.Proofs.Ytnbljpdfmomjjaa
open Go.RowKit
set_option linter.unusedVariables false

set_option maxHeartbeats 3200000 in
set_option maxRecDepth 20000 in
theorem frameBytes_c (s c f : ByteArray) (w : World) (hc : Hid (s.extract 0 200 = c)) (hcs : (c.size : Int) ≤ 200) (hss : 200 < (s.size : Int)) (hf : Hid (frB c = f)) (hfs : (f.size : Int) = (c.size : Int) + 2)
    (HF : Hid (f.data.toList = M.be 2 c.size ++ (c.data.toList ++ []))) :
    Calls Try.prog 7 #[.string s] w fun e w' => e = .returned (.bool true) ∧ Below w.heap.size w w' := by
  have htext := Lib.hid (fr_text c [])
  have hrest := Lib.hid (fr_rest c [])
  have hval : Hid (∀ k, 2 ≤ k → M.val ((f.data.toList.take k).take 2) = c.size) := Lib.hid (fun k hk => by
    rw [List.take_take, Nat.min_eq_left hk, HF.out]
    exact fr_val c.size _ (by omega))
  have hall : f.data.toList.length = f.size := by simp
  go_enter Try.func7, Try.ntmps7
  try simp only [List.append_eq, List.cons_append, List.nil_append]
  go_wp2_with fail
  refine (examples_any _).mono ?_
  rintro e w1 ⟨rfl, b1⟩
  go_wp2_with fail
  refine (new_any _).mono ?_
  rintro e w2 ⟨rfl, r2, b2⟩
  have B2 := Lib.hid (chain b1 b2)
  have hb1 := b1.size
  clear b1 b2
  go_wp2_with fail
  rw [hc.out]
  refine (fput_good _ _ _ hcs hf).mono ?_
  rintro e w3 ⟨rfl, b3⟩
  have R3 := Lib.hid (r2.below b3)
  have B3 := Lib.hid (chain B2.out b3)
  clear r2 b3 B2
  generalize w1.heap.size = lo at *
  go_wp2_with fail
  go_loopw [7] (fun i wr => ∃ k : Nat, k ≤ f.size ∧ i = .int .i64 (k : Int) ∧ Hid (RB wr lo lo (if k < f.size then f.data.toList.take k else []) false) ∧ Hid (Below w.heap.size w wr)) (fun i _ => f.size + 1 - (intOf i).toNat)
  case atStart => exact ⟨0, by omega, rfl, Lib.hid (by rw [if_pos (by omega)]; exact R3.out), B3⟩
  clear R3 B3
  case round =>
    obtain ⟨k, hk, rfl, HR, HB⟩ := hrel
    by_cases hlt : k < f.size
    · have hli : (k : Int) < (f.size : Int) := by omega
      have R := Lib.hid (by have := HR.out; rw [if_pos hlt] at this; exact this)
      clear HR
      have hlo : lo ≤ wr.heap.size := Nat.le_of_lt R.out.lt
      have hadd : Hid (f.data.toList.take k ++ (f.extract k (k + 1)).data.toList = f.data.toList.take (k + 1)) := Lib.hid (by
        have e1 : k + 1 - k = 1 := by omega
        rw [extract_list, e1, List.take_add])
      have hbs : (f.extract k (k + 1)).size ≤ 1 := by rw [ByteArray.size_extract]; omega
      go_wp2_with fail
      generalize f.extract k (k + 1) = b at *
      refine (add_good lo lo _ b _ hlo R.out (by rw [List.length_take]; omega)).mono ?_
      rw [hadd.out]
      rintro e w4 ⟨rfl, r4, b4⟩
      have R4 := Lib.hid r4
      have B4 := Lib.hid (HB.out.trans (b4.mono hb1))
      have hlo4 := Nat.le_trans hlo b4.size
      clear r4 b4 R HB hadd hbs
      have hk1 : (f.data.toList.take (k + 1)).length = k + 1 := by rw [List.length_take]; omega
      by_cases hlast : k + 1 = f.size
      · have hla : (k : Int) = (f.size : Int) - 1 := by omega
        have hfull : f.data.toList.take (k + 1) = M.be 2 c.size ++ (c.data.toList ++ []) := by
          rw [List.take_of_length_le (by omega), HF.out]
        have hv := Lib.hid (hval.out (k + 1) (by omega))
        rw [hfull] at R4 hv hk1
        generalize hL : M.be 2 c.size ++ (c.data.toList ++ []) = L at *
        clear hfull hL HF
        go_wp2_with fail
        refine (next_tell lo lo L c.size c _ htext hlo4 R4.out (by omega) (by omega) (by omega) hv hcs).mono ?_
        rw [hrest.out]
        rintro e w5 ⟨rfl, r5, b5⟩
        have R5 : Hid (RB w5 lo lo (if k + 1 < f.size then f.data.toList.take (k + 1) else []) false) := Lib.hid (by rw [if_neg (by omega)]; exact r5)
        have B5 := Lib.hid (B4.out.trans (b5.mono hb1))
        clear r5 b5 R4 B4
        go_wp2_with fail
        go_roundw
        case rel => exact ⟨k + 1, by omega, by go_num, R5, B5⟩
        case measure => simp [intOf]; omega
      · have hla : ¬ (k : Int) = (f.size : Int) - 1 := by omega
        by_cases h0 : k = 0
        · subst h0
          go_wp2_with fail
          refine (next_short lo lo _ _ R4.out (by omega)).mono ?_
          rintro e w5 ⟨rfl, rfl⟩
          go_wp2_with fail
          refine (rest_any lo lo _ false _ R4.out).mono ?_
          rw [hk1]
          rintro e w5 ⟨rfl, rfl⟩
          have R5 : Hid (RB w4 lo lo (if 0 + 1 < f.size then f.data.toList.take (0 + 1) else []) false) := Lib.hid (by rw [if_pos (by omega)]; exact R4.out)
          clear R4
          go_wp2_with fail
          go_roundw
          case rel => exact ⟨0 + 1, by omega, by go_num, R5, B4⟩
          case measure => first | (simp [intOf]; done) | (simp [intOf]; omega)
        · have hv := Lib.hid (hval.out (k + 1) (by omega))
          go_wp2_with fail
          refine (next_wait lo lo _ c.size _ R4.out (by omega) (by omega) hv hcs (by omega)).mono ?_
          rintro e w5 ⟨rfl, r5, b5⟩
          have B5 := Lib.hid (chain B4.out b5)
          have R5' := Lib.hid r5
          clear r5 b5 R4 B4
          go_wp2_with fail
          refine (rest_any lo lo _ false _ R5'.out).mono ?_
          rw [hk1]
          rintro e w6 ⟨rfl, rfl⟩
          have R5 : Hid (RB w5 lo lo (if k + 1 < f.size then f.data.toList.take (k + 1) else []) false) := Lib.hid (by rw [if_pos (by omega)]; exact R5'.out)
          clear R5'
          go_wp2_with fail
          go_roundw
          case rel => exact ⟨k + 1, by omega, by go_num, R5, B5⟩
          case measure => simp [intOf]; omega
    · obtain rfl : k = f.size := by omega
      have hli : ¬ ((f.size : Int) < (f.size : Int)) := by omega
      have R := Lib.hid (by have := HR.out; rw [if_neg hlt] at this; exact this)
      have hbw := HB
      clear HR HB
      go_wp2_with fail
      refine (rest_any lo lo [] false _ R.out).mono ?_
      rintro e w6 ⟨rfl, rfl⟩
      go_wp2_with fail
      go_ret
      refine ⟨ret_true ?_, hbw.out⟩
      first | rfl | (simp; done) | (simp; omega)
set_option maxHeartbeats 3200000 in
set_option maxRecDepth 20000 in
theorem frameBytes_s (s c f : ByteArray) (w : World) (hss : (s.size : Int) ≤ 200) (hf : Hid (frB s = f)) (hfs : (f.size : Int) = (s.size : Int) + 2)
    (HF : Hid (f.data.toList = M.be 2 s.size ++ (s.data.toList ++ []))) :
    Calls Try.prog 7 #[.string s] w fun e w' => e = .returned (.bool true) ∧ Below w.heap.size w w' := by
  have htext := Lib.hid (fr_text s [])
  have hrest := Lib.hid (fr_rest s [])
  have hval : Hid (∀ k, 2 ≤ k → M.val ((f.data.toList.take k).take 2) = s.size) := Lib.hid (fun k hk => by
    rw [List.take_take, Nat.min_eq_left hk, HF.out]
    exact fr_val s.size _ (by omega))
  have hall : f.data.toList.length = f.size := by simp
  go_enter Try.func7, Try.ntmps7
  try simp only [List.append_eq, List.cons_append, List.nil_append]
  go_wp2_with fail
  refine (examples_any _).mono ?_
  rintro e w1 ⟨rfl, b1⟩
  go_wp2_with fail
  refine (new_any _).mono ?_
  rintro e w2 ⟨rfl, r2, b2⟩
  have B2 := Lib.hid (chain b1 b2)
  have hb1 := b1.size
  clear b1 b2
  go_wp2_with fail
  refine (fput_good _ _ _ hss hf).mono ?_
  rintro e w3 ⟨rfl, b3⟩
  have R3 := Lib.hid (r2.below b3)
  have B3 := Lib.hid (chain B2.out b3)
  clear r2 b3 B2
  generalize w1.heap.size = lo at *
  go_wp2_with fail
  go_loopw [7] (fun i wr => ∃ k : Nat, k ≤ f.size ∧ i = .int .i64 (k : Int) ∧ Hid (RB wr lo lo (if k < f.size then f.data.toList.take k else []) false) ∧ Hid (Below w.heap.size w wr)) (fun i _ => f.size + 1 - (intOf i).toNat)
  case atStart => exact ⟨0, by omega, rfl, Lib.hid (by rw [if_pos (by omega)]; exact R3.out), B3⟩
  clear R3 B3
  case round =>
    obtain ⟨k, hk, rfl, HR, HB⟩ := hrel
    by_cases hlt : k < f.size
    · have hli : (k : Int) < (f.size : Int) := by omega
      have R := Lib.hid (by have := HR.out; rw [if_pos hlt] at this; exact this)
      clear HR
      have hlo : lo ≤ wr.heap.size := Nat.le_of_lt R.out.lt
      have hadd : Hid (f.data.toList.take k ++ (f.extract k (k + 1)).data.toList = f.data.toList.take (k + 1)) := Lib.hid (by
        have e1 : k + 1 - k = 1 := by omega
        rw [extract_list, e1, List.take_add])
      have hbs : (f.extract k (k + 1)).size ≤ 1 := by rw [ByteArray.size_extract]; omega
      go_wp2_with fail
      generalize f.extract k (k + 1) = b at *
      refine (add_good lo lo _ b _ hlo R.out (by rw [List.length_take]; omega)).mono ?_
      rw [hadd.out]
      rintro e w4 ⟨rfl, r4, b4⟩
      have R4 := Lib.hid r4
      have B4 := Lib.hid (HB.out.trans (b4.mono hb1))
      have hlo4 := Nat.le_trans hlo b4.size
      clear r4 b4 R HB hadd hbs
      have hk1 : (f.data.toList.take (k + 1)).length = k + 1 := by rw [List.length_take]; omega
      by_cases hlast : k + 1 = f.size
      · have hla : (k : Int) = (f.size : Int) - 1 := by omega
        have hfull : f.data.toList.take (k + 1) = M.be 2 s.size ++ (s.data.toList ++ []) := by
          rw [List.take_of_length_le (by omega), HF.out]
        have hv := Lib.hid (hval.out (k + 1) (by omega))
        rw [hfull] at R4 hv hk1
        generalize hL : M.be 2 s.size ++ (s.data.toList ++ []) = L at *
        clear hfull hL HF
        go_wp2_with fail
        refine (next_tell lo lo L s.size s _ htext hlo4 R4.out (by omega) (by omega) (by omega) hv hss).mono ?_
        rw [hrest.out]
        rintro e w5 ⟨rfl, r5, b5⟩
        have R5 : Hid (RB w5 lo lo (if k + 1 < f.size then f.data.toList.take (k + 1) else []) false) := Lib.hid (by rw [if_neg (by omega)]; exact r5)
        have B5 := Lib.hid (B4.out.trans (b5.mono hb1))
        clear r5 b5 R4 B4
        go_wp2_with fail
        go_roundw
        case rel => exact ⟨k + 1, by omega, by go_num, R5, B5⟩
        case measure => simp [intOf]; omega
      · have hla : ¬ (k : Int) = (f.size : Int) - 1 := by omega
        by_cases h0 : k = 0
        · subst h0
          go_wp2_with fail
          refine (next_short lo lo _ _ R4.out (by omega)).mono ?_
          rintro e w5 ⟨rfl, rfl⟩
          go_wp2_with fail
          refine (rest_any lo lo _ false _ R4.out).mono ?_
          rw [hk1]
          rintro e w5 ⟨rfl, rfl⟩
          have R5 : Hid (RB w4 lo lo (if 0 + 1 < f.size then f.data.toList.take (0 + 1) else []) false) := Lib.hid (by rw [if_pos (by omega)]; exact R4.out)
          clear R4
          go_wp2_with fail
          go_roundw
          case rel => exact ⟨0 + 1, by omega, by go_num, R5, B4⟩
          case measure => first | (simp [intOf]; done) | (simp [intOf]; omega)
        · have hv := Lib.hid (hval.out (k + 1) (by omega))
          go_wp2_with fail
          refine (next_wait lo lo _ s.size _ R4.out (by omega) (by omega) hv hss (by omega)).mono ?_
          rintro e w5 ⟨rfl, r5, b5⟩
          have B5 := Lib.hid (chain B4.out b5)
          have R5' := Lib.hid r5
          clear r5 b5 R4 B4
          go_wp2_with fail
          refine (rest_any lo lo _ false _ R5'.out).mono ?_
          rw [hk1]
          rintro e w6 ⟨rfl, rfl⟩
          have R5 : Hid (RB w5 lo lo (if k + 1 < f.size then f.data.toList.take (k + 1) else []) false) := Lib.hid (by rw [if_pos (by omega)]; exact R5'.out)
          clear R5'
          go_wp2_with fail
          go_roundw
          case rel => exact ⟨k + 1, by omega, by go_num, R5, B5⟩
          case measure => simp [intOf]; omega
    · obtain rfl : k = f.size := by omega
      have hli : ¬ ((f.size : Int) < (f.size : Int)) := by omega
      have R := Lib.hid (by have := HR.out; rw [if_neg hlt] at this; exact this)
      have hbw := HB
      clear HR HB
      go_wp2_with fail
      refine (rest_any lo lo [] false _ R.out).mono ?_
      rintro e w6 ⟨rfl, rfl⟩
      go_wp2_with fail
      go_ret
      refine ⟨ret_true ?_, hbw.out⟩
      first | rfl | (simp; done) | (simp; omega)
theorem frameBytes_law (a0 : ByteArray) (w : World) (z0 : a0.size ≤ 140737488351232) :
    Calls Try.prog 7 #[.string a0] w fun e w' => e = .returned (.bool true) ∧ Below w.heap.size w w' := by
  have hz : ((a0.extract 0 200).size : Int) ≤ 200 := by rw [ByteArray.size_extract]; omega
  have hfs : ∀ s : ByteArray, ((frB s).size : Int) = (s.size : Int) + 2 := fun s => by rw [frB_size]; omega
  have hl : ∀ s : ByteArray, (frB s).data.toList = M.be 2 s.size ++ (s.data.toList ++ []) := fun s => by
    unfold frB; rw [append_list, Str_list, List.append_nil]
  rcases Int.lt_or_le 200 (a0.size : Int) with hm | hm
  · exact frameBytes_c a0 _ _ w (Lib.hid rfl) hz hm (Lib.hid rfl) (hfs _) (Lib.hid (hl _))
  · exact frameBytes_s a0 a0 _ w hm (Lib.hid rfl) (hfs _) (Lib.hid (hl _))
end Go.Proofs.Ytnbljpdfmomjjaa
