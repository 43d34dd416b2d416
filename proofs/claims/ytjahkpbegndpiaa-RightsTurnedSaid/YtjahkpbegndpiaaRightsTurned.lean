import Derived.Test.YtjahkpbegndpiaaRightsBack
import Derived.Test.YtjahkpbegndpiaaBuf
import Derived.BigRegion
namespace Go.Proofs.Ytjahkpbegndpiaa
open Go.RowKit
set_option linter.unusedVariables false

/-! ### Letters in whatever order -/
theorem pstep_bit {m m' : Nat} {c : UInt8} (h : pstep m c = some m') : 97 ≤ c.toNat ∧ c.toNat ≤ 112 ∧ m.testBit (c.toNat - 97) = false ∧ m' = m ||| 2 ^ (c.toNat - 97) := by
  unfold pstep at h
  split at h
  · rename_i hc
    cases h
    refine ⟨hc.1, hc.2.1, ?_, rfl⟩
    rw [Nat.testBit_eq_decide_div_mod_eq]
    simp [hc.2.2]
  · cases h
theorem pstep_of_bit {m : Nat} {c : UInt8} (h1 : 97 ≤ c.toNat) (h2 : c.toNat ≤ 112) (h3 : m.testBit (c.toNat - 97) = false) : pstep m c = some (m ||| 2 ^ (c.toNat - 97)) := by
  have h4 : m / 2 ^ (c.toNat - 97) % 2 = 0 := by
    rw [Nat.testBit_eq_decide_div_mod_eq] at h3
    simpa using h3
  exact if_pos ⟨h1, h2, h4⟩
theorem pstep_swap {m m1 m2 : Nat} {c d : UInt8} (h1 : pstep m c = some m1) (h2 : pstep m1 d = some m2) : ∃ m3, pstep m d = some m3 ∧ pstep m3 c = some m2 := by
  obtain ⟨a1, a2, a3, rfl⟩ := pstep_bit h1
  obtain ⟨b1, b2, b3, rfl⟩ := pstep_bit h2
  rw [Nat.testBit_or, Nat.testBit_two_pow, Bool.or_eq_false_iff] at b3
  refine ⟨_, pstep_of_bit b1 b2 b3.1, ?_⟩
  rw [pstep_of_bit a1 a2 ?_]
  · rw [Nat.or_assoc, Nat.or_assoc, Nat.or_comm (2 ^ (d.toNat - 97))]
  · rw [Nat.testBit_or, Nat.testBit_two_pow, a3, Bool.false_or]
    have := b3.2
    simp only [decide_eq_false_iff_not] at this ⊢
    omega
theorem pfold_perm {l l' : List UInt8} (hp : l.Perm l') : ∀ (m n : Nat), pfold l m = some n → pfold l' m = some n := by
  induction hp with
  | nil => intro m n h; exact h
  | cons c hp ih =>
    intro m n h
    simp only [pfold] at h ⊢
    cases hs : pstep m c with
    | none => rw [hs] at h; cases h
    | some m' => rw [hs] at h; exact ih m' n h
  | swap c d l =>
    intro m n h
    simp only [pfold] at h ⊢
    cases hs : pstep m d with
    | none => rw [hs] at h; cases h
    | some m1 =>
      rw [hs] at h
      simp only at h
      cases hs2 : pstep m1 c with
      | none => rw [hs2] at h; cases h
      | some m2 =>
        rw [hs2] at h
        obtain ⟨m3, e1, e2⟩ := pstep_swap hs hs2
        simp only [e1, e2]
        exact h
  | trans _ _ ih1 ih2 => intro m n h; exact ih2 m n (ih1 m n h)
/-- The text of a mask, letter by letter. -/
theorem textS_fold (m : Nat) (hm : m ≤ 65535) : pfold (textS (m : Int)).data.toList 0 = some m := by
  have h1 := (textS_par m hm).1
  have h2 := (textS_par m hm).2
  unfold parN at h1
  unfold parB at h2
  cases hp : pfold (textS (m : Int)).data.toList 0 with
  | none => rw [hp] at h2; cases h2
  | some x =>
    rw [hp] at h1
    simp only at h1
    congr 1
    omega
/-- After j rounds. -/
def Swapped (l l' : List UInt8) (j : Nat) : Prop :=
  l'.length = l.length ∧ ∀ i (h : i < l.length) (h' : i < l'.length), l'[i] = if i < j ∨ l.length - 1 - i < j then l[l.length - 1 - i]'(by omega) else l[i]
theorem swapped_start (l : List UInt8) : Swapped l l 0 := ⟨rfl, fun i h h' => by simp⟩
theorem swapped_step {l l' : List UInt8} {j : Nat} (h : Swapped l l' j) (hj : j < l.length / 2) (h1 : j < l'.length) (h2 : l.length - 1 - j < l'.length) :
    Swapped l ((l'.set j l'[l.length - 1 - j]).set (l.length - 1 - j) l'[j]) (j + 1) := by
  refine ⟨by simp [h.1], fun i hi hi' => ?_⟩
  have hl := h.1
  have e1 := h.2 j (by omega) h1
  have e2 := h.2 (l.length - 1 - j) (by omega) h2
  have e3 := h.2 i hi (by omega)
  rw [List.getElem_set, List.getElem_set]
  rw [if_neg (by omega)] at e1
  rw [if_neg (by omega)] at e2
  by_cases c1 : l.length - 1 - j = i
  · subst c1
    rw [if_pos rfl, e1, if_pos (by omega)]
    congr 1
    omega
  · rw [if_neg c1]
    by_cases c2 : j = i
    · subst c2
      rw [if_pos rfl, e2, if_pos (by omega)]
    · rw [if_neg c2, e3]
      by_cases c3 : i < j ∨ l.length - 1 - i < j
      · rw [if_pos c3, if_pos (by omega)]
      · rw [if_neg c3, if_neg (by omega)]
theorem swapped_end {l l' : List UInt8} {j : Nat} (h : Swapped l l' j) (hj : l.length / 2 ≤ j) : l' = l.reverse := by
  refine List.ext_getElem (by simp [h.1]) fun i hi hi' => ?_
  have hl := h.1
  rw [h.2 i (by omega) hi, List.getElem_reverse]
  by_cases c : i < j ∨ l.length - 1 - i < j
  · rw [if_pos c]
  · rw [if_neg c]
    congr 1
    omega
theorem rev_par (m : Nat) (hm : m ≤ 65535) : parN (Str (textS (m : Int)).data.toList.reverse) = (m : Int) ∧ parB (Str (textS (m : Int)).data.toList.reverse) = true := by
  have h := pfold_perm (List.reverse_perm (textS (m : Int)).data.toList).symm 0 m (textS_fold m hm)
  unfold parN parB
  rw [show (Str (textS (m : Int)).data.toList.reverse).data.toList = (textS (m : Int)).data.toList.reverse from rfl, h]
  exact ⟨rfl, rfl⟩
theorem more_par (m : Nat) (hm : m ≤ 65535) (b : List UInt8) : parN (textS (m : Int) ++ Str b) = (match pfold b m with | some x => (x : Int) | none => 0) ∧ parB (textS (m : Int) ++ Str b) = (pfold b m).isSome := by
  unfold parN parB
  rw [show (textS (m : Int) ++ Str b).data.toList = (textS (m : Int)).data.toList ++ b by simp [Str, ByteArray.data_append], pfold_append, textS_fold m hm]
  exact ⟨rfl, rfl⟩
theorem conv_letter (c : Nat) (w : World) : (convert 33 9 (.slice (some ⟨w.heap.size, 0, none⟩) 1 1)).run Try.prog (w.alloc (.cells #[.int .u8 (97 + (c : Int) % 16)] 5)) = .ok (.string (Str [UInt8.ofNat (97 + c % 16)])) (w.alloc (.cells #[.int .u8 (97 + (c : Int) % 16)] 5)) :=
  run_convert_bytes_back (P := Try.prog) _ 33 9 5 ⟨w.heap.size, 0, none⟩ 1 [UInt8.ofNat (97 + c % 16)] Try.underlying33 Try.underlying5 Try.underlying9 (fun j hj => by
    obtain rfl : j = 0 := by simpa using hj
    rw [addr_add, World.cell?_alloc_new]
    have : (97 + c % 16) % 256 = 97 + c % 16 := by omega
    simp [UInt8.toNat_ofNat', this])
set_option maxHeartbeats 2000000 in
theorem rightsTurned_walk (m c : Nat) (t : ByteArray) (w : World) (hm : m ≤ 65535) (hc : c ≤ 255) (ht : Hid (textS (m : Int) = t)) (hts : t.size ≤ 16) (hmk : Hid (maskOk (m : Int) = true)) (RN : Hid (parN (Str t.data.toList.reverse) = (m : Int))) (RB : Hid (parB (Str t.data.toList.reverse) = true))
    (d : ByteArray) (hd : d.size = 1) (hcl : ∀ w : World, (convert 33 9 (.slice (some ⟨w.heap.size, 0, none⟩) 1 1)).run Try.prog (w.alloc (.cells #[.int .u8 (97 + (c : Int) % 16)] 5)) = .ok (.string d) (w.alloc (.cells #[.int .u8 (97 + (c : Int) % 16)] 5)))
    (mo : Nat) (fine : Bool) (MN : Hid (parN (t ++ d) = (mo : Int))) (MB : Hid (parB (t ++ d) = fine)) (SB : Hid (parB (t ++ ⟨#[113]⟩) = false)) (p : Nat) (hp : p ≤ 16) (CM : Hid (cntN (m : Int) = (p : Int)))
    (hcase : Hid (((((m : Int) / 2 ^ (c % 16)).tmod 2 == 1) = true ∧ fine = false) ∨ ((((m : Int) / 2 ^ (c % 16)).tmod 2 == 1) = false ∧ fine = true ∧ bits .or .i64 (m : Int) (wrap64 (2 ^ (c % 16))) = (mo : Int) ∧ cntN (mo : Int) = (p : Int) + 1))) :
    Calls Try.prog 7 #[.int .u16 (m : Int), .int .u8 (c : Int)] w fun e w' => e = .returned (.bool true) ∧ Below w.heap.size w w' := by
  have hbs := fun w s => run_bytes_of_string (P := Try.prog) w 9 33 5 s Try.underlying9 Try.underlying33 Try.underlying5
  go_enter Try.func7, Try.ntmps7
  go_wp2_with fail
  refine (examples_any _).mono ?_
  rintro e w1 ⟨rfl, bb⟩
  go_wp2_with fail
  refine (text_any _ _).mono ?_
  rw [ht.out, hmk.out]
  rintro e w2 ⟨rfl, b2⟩
  replace bb := chain bb b2
  clear b2
  go_wp2_with fail
  have hB := Lib.hid (Buf.made w2 t (grownCap w2 t.size 0 5))
  have hW : Below w.heap.size w (w2.drew.alloc (.cells (bytesRow t (grownCap w2 t.size 0 5)) 5 ((bytesRow t (grownCap w2 t.size 0 5)).size, (bytesRow t (grownCap w2 t.size 0 5)).size + 1))) :=
    (bb.drew).alloc bb.size _
  have hg : w.heap.size ≤ w2.heap.size := bb.size
  generalize hcap : grownCap w2 t.size 0 5 = cap at hB hW ⊢
  have hw3 : ∀ o, (w2.alloc o).drew = w2.drew.alloc o := fun _ => rfl
  rw [hw3]
  generalize w2.drew.alloc _ = w3 at hB hW ⊢
  generalize w2.heap.size = g at hB hg ⊢
  clear hcap hw3 bb
  go_loopw [9] (fun i wr => ∃ (j : Nat) (l : List UInt8), j ≤ 8 ∧ i = .int .i64 (j : Int) ∧ Hid (Swapped t.data.toList l j) ∧ Hid (Buf wr g l) ∧ Below w.heap.size w wr) (fun i _ => 9 - (intOf i).toNat)
  case atStart => exact ⟨0, t.data.toList, by omega, rfl, Lib.hid (swapped_start _), hB, hW⟩
  case round =>
    obtain ⟨j, l, hk, rfl, hsw, hbf, hbw⟩ := hrel
    have hl0 : l.length = t.size := hsw.out.1.trans (by simp)
    by_cases hlt : j < t.size / 2
    · have hjl : j < l.length := by omega
      have hql : t.size - 1 - j < l.length := by omega
      have hc1 := hbf.out.cell j hjl
      have hc2 := hbf.out.cell (t.size - 1 - j) hql
      have hf1 := hbf.out.free j hjl
      have hf2 := hbf.out.free (t.size - 1 - j) hql
      have hlt' : (j : Int) < (t.size : Int) / 2 := by omega
      have hjs : (j : Int) < (t.size : Int) := by omega
      generalize hx : (l[j]).toNat = x at hc1
      generalize hy : (l[t.size - 1 - j]).toNat = y at hc2
      go_wp2_with fail
      go_region
      all_goals go_wp2_with fail
      go_roundw
      case rel =>
        subst hx hy
        refine ⟨j + 1, _, by omega, by go_num, Lib.hid (swapped_step hsw.out (by simpa using hlt) hjl (by simpa using hql)), Lib.hid ?_, ?_⟩
        · have h2 := (hbf.out.set j hjl (l[t.size - 1 - j])).set (t.size - 1 - j) (by simpa using hql) (l[j])
          simpa using h2.drew
        · exact ((hbw.setCell hg _).setCell hg _).drew
      case measure => simp [intOf]; omega
    · have hrev := swapped_end hsw.out (by simpa using hlt)
      have hcv := hbf.out.conv cap
      rw [hl0, hrev] at hcv
      clear hbs
      have hlt' : (t.size : Int) / 2 ≤ (j : Int) := by omega
      go_wp2_with fail
      refine (parse_any _ _ (by rw [Str_size]; simp; omega)).mono ?_
      rw [RN.out, RB.out]
      rintro e w4 ⟨rfl, b4⟩
      replace hbw := chain hbw b4
      clear b4
      go_wp2_with fail
      refine (parse_any _ _ (by rw [ByteArray.size_append]; omega)).mono ?_
      rw [MN.out, MB.out]
      rintro e w5 ⟨rfl, b5⟩
      replace hbw := chain (hbw.alloc hbw.size _) b5
      clear b5
      have hq : t.size + (1 : Nat) ≤ 9223372036854775807 := by omega
      rcases hcase.out with ⟨hT, rfl⟩ | ⟨hT, rfl, hor, hcm⟩
      · go_wp2_with fail
        refine (parse_any _ _ (by rw [ByteArray.size_append]; exact hq)).mono ?_
        rw [SB.out]
        rintro e w6 ⟨rfl, b6⟩
        replace hbw := chain hbw b6
        clear b6
        go_wp2_with fail
        go_ret
        exact ⟨ret_true (by simp), hbw⟩
      · have HC := Lib.hid hcm
        clear hcm
        go_wp2_with fail
        refine (parse_any _ _ (by rw [ByteArray.size_append]; exact hq)).mono ?_
        rw [SB.out]
        rintro e w6 ⟨rfl, b6⟩
        replace hbw := chain hbw b6
        clear b6
        go_wp2_with fail
        refine (count_any _ _).mono ?_
        rw [HC.out]
        rintro e w7 ⟨rfl, rfl⟩
        go_wp2_with fail
        refine (count_any _ _).mono ?_
        rw [CM.out]
        rintro e w7 ⟨rfl, rfl⟩
        go_wp2_with fail
        go_ret
        exact ⟨ret_true (by simp), hbw⟩
theorem pfold_one (c : UInt8) (m : Nat) : pfold [c] m = pstep m c := by
  simp only [pfold]
  cases pstep m c <;> rfl
theorem rightsTurned_law (a0 a1 : Int) (w : World) (w0 : (Lit.int .u16 a0).wf = true) (w1 : (Lit.int .u8 a1).wf = true) :
    Calls Try.prog 7 #[.int .u16 a0, .int .u8 a1] w fun e w' => e = .returned (.bool true) ∧ Below w.heap.size w w' := by
  obtain ⟨h0, h1⟩ := bounds_u16 w0
  obtain ⟨g0, g1⟩ := bounds_u8 w1
  obtain ⟨m, rfl⟩ := Int.eq_ofNat_of_zero_le h0
  obtain ⟨c, rfl⟩ := Int.eq_ofNat_of_zero_le g0
  have hm : m ≤ 65535 := by omega
  have hr := rev_par m hm
  have hk : (UInt8.ofNat (97 + c % 16)).toNat = 97 + c % 16 := by simp; omega
  have hq : pfold [(113 : UInt8)] m = none := by rw [pfold_one]; exact pstep_out (.inr (by decide))
  have hmore := more_par m hm [UInt8.ofNat (97 + c % 16)]
  rw [pfold_one] at hmore
  have hsb : parB (textS (m : Int) ++ ⟨#[113]⟩) = false := by
    have := (more_par m hm [113]).2
    rw [hq] at this
    exact this
  have hpw : wrap64 ((2 : Int) ^ (c % 16)) = ((2 ^ (c % 16) : Nat) : Int) := pow_wrap (c % 16) (by omega)
  have hsm := pow_small (c % 16) (by omega)
  have hor : bits .or .i64 (m : Int) (wrap64 (2 ^ (c % 16))) = ((m ||| 2 ^ (c % 16) : Nat) : Int) := by
    rw [hpw, i64_or_nat _ _ (by omega) (by omega)]
  have htm : ((m : Int) / 2 ^ (c % 16)).tmod 2 = ((m / 2 ^ (c % 16) % 2 : Nat) : Int) := by
    rw [Int.tmod_eq_emod_of_nonneg (Int.ediv_nonneg (by omega) (Int.le_of_lt (Int.pow_pos (by omega))))]
    generalize c % 16 = k
    rw [Int.natCast_emod, Int.natCast_ediv, Int.natCast_pow]
    rfl
  have walk := fun mo fine (h1 : parN (textS (m : Int) ++ Str [UInt8.ofNat (97 + c % 16)]) = ((mo : Nat) : Int)) (h2 : parB (textS (m : Int) ++ Str [UInt8.ofNat (97 + c % 16)]) = fine) => rightsTurned_walk m c _ w hm (by omega) (Lib.hid rfl) (by rw [textS_size m hm]; exact pc_le 16 m) (Lib.hid (maskOk_nat m hm)) (Lib.hid hr.1) (Lib.hid hr.2) (Str [UInt8.ofNat (97 + c % 16)]) rfl (conv_letter c) mo fine (Lib.hid h1) (Lib.hid h2) (Lib.hid hsb) (pc 16 m) (pc_le 16 m) (Lib.hid (cntN_nat m hm))
  by_cases hb : m / 2 ^ (c % 16) % 2 = 0
  · have hs : pstep m (UInt8.ofNat (97 + c % 16)) = some (m ||| 2 ^ (c % 16)) := by
      unfold pstep
      rw [hk, Nat.add_sub_cancel_left]
      exact if_pos ⟨by omega, by omega, hb⟩
    rw [hs] at hmore
    have hlt := pstep_lt (by omega) hs
    refine walk _ _ hmore.1 hmore.2 (Lib.hid (.inr ⟨by rw [htm, hb]; rfl, rfl, hor, ?_⟩))
    rw [cntN_nat _ (by omega), pstep_count hs]
    omega
  · have hs : pstep m (UInt8.ofNat (97 + c % 16)) = none := by
      unfold pstep
      rw [hk, Nat.add_sub_cancel_left]
      exact if_neg (fun h => hb h.2.2)
    rw [hs] at hmore
    refine walk 0 _ hmore.1 hmore.2 (Lib.hid (.inl ⟨?_, rfl⟩))
    rw [htm, show m / 2 ^ (c % 16) % 2 = 1 by omega]
    rfl
end Go.Proofs.Ytjahkpbegndpiaa
