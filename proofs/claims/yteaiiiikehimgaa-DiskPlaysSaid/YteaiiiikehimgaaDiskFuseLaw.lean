import Derived.Test.YteaiiiikehimgaaEx06
import Derived.Test.YteaiiiikehimgaaDiskFacts
namespace Go.Proofs.Yteaiiiikehimgaa
open Go.RowKit
set_option linter.unusedVariables false
set_option linter.unusedSimpArgs false
/-- A disk with a fuse of f, behind i writes. -/
def InvF (st : DkS) (f i : Nat) : Prop := st.S.length = 8 ∧ (i ≤ f → st.up = true ∧ st.fuse = (f : Int) - (i : Int)) ∧ (f < i → st.up = false)
theorem invF_step (st : DkS) (f i q : Nat) (h : InvF st f i) (hq : q < 8) (X : List UInt8) (hX : X.length = 256) :
    (i < f → (st.write (q : Int) X).2 = 0 ∧ (st.write (q : Int) X).1.sync.2 = 0) ∧ (f ≤ i → (st.write (q : Int) X).2 = 5 ∧ (st.write (q : Int) X).1.sync.2 = 5) ∧ InvF (st.write (q : Int) X).1.sync.1 f (i + 1) := by
  obtain ⟨h1, h2, h3⟩ := h
  have hc : (decide (0 ≤ (q : Int)) && decide ((q : Int) < (st.S.length : Int)) && decide (X.length = 256)) = true := by
    rw [h1, hX]; simp; omega
  by_cases hi : f < i
  · have hu := h3 hi
    have hw : st.write (q : Int) X = (st, 5) := by unfold DkS.write; rw [if_pos hu]
    rw [hw]
    have hs : st.sync = (st, 5) := by unfold DkS.sync; rw [if_pos hu]
    show (i < f → _ ∧ st.sync.2 = 0) ∧ (f ≤ i → _ ∧ st.sync.2 = 5) ∧ InvF st.sync.1 f (i + 1)
    rw [hs]
    exact ⟨fun h => by omega, fun _ => ⟨rfl, rfl⟩, h1, fun h => by omega, fun _ => hu⟩
  · obtain ⟨hu, hf⟩ := h2 (by omega)
    by_cases hif : i = f
    · have hz : st.fuse = 0 := by omega
      have hw : st.write (q : Int) X = ({ st with up := false }, 5) := by
        unfold DkS.write
        rw [if_neg (by rw [hu]; simp), if_neg (by rw [hc]; simp), if_pos hz]
      rw [hw]
      have hs : ({ st with up := false } : DkS).sync = ({ st with up := false }, 5) := by unfold DkS.sync; rw [if_pos rfl]
      show (i < f → _ ∧ ({ st with up := false } : DkS).sync.2 = 0) ∧ (f ≤ i → _ ∧ ({ st with up := false } : DkS).sync.2 = 5) ∧ InvF ({ st with up := false } : DkS).sync.1 f (i + 1)
      rw [hs]
      exact ⟨fun h => by omega, fun _ => ⟨rfl, rfl⟩, h1, fun h => by omega, fun _ => rfl⟩
    · have hz : ¬ st.fuse = 0 := by omega
      have hw : st.write (q : Int) X = (st.wrote q X, 0) := by
        unfold DkS.write
        rw [if_neg (by rw [hu]; simp), if_neg (by rw [hc]; simp), if_neg hz]
        rfl
      rw [hw]
      have hup : (st.wrote q X).up = true := by rw [wrote_up]; exact hu
      have hfu : (st.wrote q X).fuse = (f : Int) - ((i + 1 : Nat) : Int) := by
        rw [wrote_fuse, if_pos (by omega)]
        omega
      have hl : (st.wrote q X).S.length = 8 := by rw [wrote_S, List.length_set]; exact h1
      have hs : (st.wrote q X).sync = ({ st.wrote q X with L := [] }, 0) := by unfold DkS.sync; rw [if_neg (by rw [hup]; simp)]
      show (i < f → _ ∧ (st.wrote q X).sync.2 = 0) ∧ (f ≤ i → _ ∧ (st.wrote q X).sync.2 = 5) ∧ InvF (st.wrote q X).sync.1 f (i + 1)
      rw [hs]
      exact ⟨fun _ => ⟨rfl, rfl⟩, fun h => by omega, hl, fun _ => ⟨hup, hfu⟩, fun h => by omega⟩
theorem invF_end (st : DkS) (f m : Nat) (h : InvF st f m) (Y : List UInt8) (hY : Y.length = 256) :
    st.up = decide (m ≤ f) ∧ (st.read 0).2 = (if m ≤ f then 0 else 5) ∧ (st.crash []).up = true ∧ ((st.crash []).write 0 Y).2 = 0 := by
  obtain ⟨h1, h2, h3⟩ := h
  have hl : (st.crash []).S.length = 8 := by unfold DkS.crash; exact (rsT_len _ _ _ _).trans h1
  have hc : (decide (0 ≤ (0 : Int)) && decide ((0 : Int) < ((st.crash []).S.length : Int)) && decide (Y.length = 256)) = true := by rw [hl, hY]; rfl
  have hw : ((st.crash []).write 0 Y).2 = 0 := by
    unfold DkS.write
    rw [if_neg (by unfold DkS.crash; simp), if_neg (by rw [hc]; simp), if_neg (by unfold DkS.crash; simp)]
  by_cases hm : m ≤ f
  · obtain ⟨hu, _⟩ := h2 hm
    refine ⟨by rw [hu]; simp [hm], ?_, rfl, hw⟩
    have hr : (decide (0 ≤ (0 : Int)) && decide ((0 : Int) < (st.S.length : Int))) = true := by rw [h1]; rfl
    rw [if_pos hm]
    unfold DkS.read
    rw [if_neg (by rw [hu]; simp), if_neg (by rw [hr]; simp)]
  · have hu := h3 (by omega)
    refine ⟨by rw [hu]; simp; omega, ?_, rfl, hw⟩
    rw [if_neg hm]
    unfold DkS.read
    rw [if_pos hu]
set_option maxHeartbeats 3200000 in
set_option maxRecDepth 20000 in
theorem diskFuse_walk (a b : Int) (f m : Nat) (w : World) (a0 : -9223372036854775808 ≤ a) (a1 : a ≤ 9223372036854775807) (b0 : -9223372036854775808 ≤ b) (b1 : b ≤ 9223372036854775807)
    (hf : (a < 0 ∧ -((a + 1).tmod 31) = (f : Int)) ∨ (0 ≤ a ∧ a % 31 = (f : Int))) (hm : (b < 0 ∧ -((b + 1).tmod 31) = (m : Int)) ∨ (0 ≤ b ∧ b % 31 = (m : Int))) (hf31 : f < 31) (hm31 : m < 31) :
    Calls Try.prog 5 #[.int .i64 a, .int .i64 b] w fun e w' => e = .returned (.bool true) ∧ Below w.heap.size w w' := by
  obtain ⟨X, HX⟩ : ∃ X, Hid (Str (fillT (⟨#[120]⟩ : ByteArray).data.toList) = X) := ⟨_, Lib.hid rfl⟩
  obtain ⟨Y, HY⟩ : ∃ Y, Hid (Str (fillT (⟨#[121]⟩ : ByteArray).data.toList) = Y) := ⟨_, Lib.hid rfl⟩
  have hXl : X.data.toList.length = 256 := by rw [← HX.out, Str_list]; exact fillT_len _
  have hYl : Y.data.toList.length = 256 := by rw [← HY.out, Str_list]; exact fillT_len _
  have HXl := Lib.hid hXl
  have HYl := Lib.hid hYl
  have NY := Lib.hid fun w => new_yes w 8 (by decide) (by decide)
  clear hXl hYl
  rcases hf with ⟨ha, hr⟩ | ⟨ha, hr⟩ <;> rcases hm with ⟨hb, hs⟩ | ⟨hb, hs⟩
  all_goals
    go_enter Try.func5, Try.ntmps5
    try simp only [List.append_eq, List.cons_append, List.nil_append]
    go_wp2_with fail
    refine (examples_any _).mono ?_
    rintro e w1 ⟨rfl, bb⟩
    have BB := Lib.hid bb
    clear bb
    go_wp2_with fail
    refine (NY.out _).mono ?_
    intro e w2 hmade
    obtain ⟨d, rfl, hd⟩ := made_L BB.out hmade
    have HD := Lib.hid hd
    clear hd hmade
    have pn := ptr_nil ⟨d, 0, none⟩
    go_wp2_with fail
    refine (fuse_L HD.out (f : Int) (f : Int) (.inr ⟨by omega, rfl⟩) (by omega)).mono ?_
    rintro e w3 ⟨rfl, hd⟩
    have HD3 := Lib.hid hd
    have HI : Hid (InvF { DkS.fresh 8 with fuse := (f : Int) } f 0) := Lib.hid ⟨rfl, fun _ => ⟨rfl, by show (f : Int) = _; omega⟩, fun h => by omega⟩
    clear hd HD
    go_wp2_with fail
    go_loopw [8, 9, 10] (fun i _ _ wr => ∃ (n : Nat) (st : DkS), n ≤ m ∧ i = .int .i64 (n : Int) ∧ Hid (DkL w wr d st) ∧ Hid (InvF st f n)) (fun i _ _ _ => m + 1 - (intOf i).toNat)
    case atStart => exact ⟨0, _, Nat.zero_le _, rfl, HD3, HI⟩
    case round =>
      obtain ⟨n, st, hn, rfl, HD, HI⟩ := hrel
      by_cases hlt : n < m
      · have hli : (n : Int) < (m : Int) := by omega
        obtain ⟨q, hq⟩ : ∃ q, n % 8 = q := ⟨_, rfl⟩
        have hq8 : q < 8 := by omega
        have hmod : (n : Int) % 8 = (q : Int) := by omega
        have ST := Lib.hid (invF_step st f n q HI.out hq8 X.data.toList HXl.out)
        clear hq
        by_cases hif : n < f
        · have hifi : (n : Int) < (f : Int) := by omega
          have r1 := Lib.hid (ST.out.1 hif)
          have r2 := Lib.hid ST.out.2.2
          go_wp2_with fail
          refine (fill_is _ _ (by decide) X HX).mono ?_
          rintro e w4 ⟨rfl, b4⟩
          have HD4 := Lib.hid (HD.out.step b4)
          clear b4
          go_wp2_with fail
          refine (write_L HD4.out (q : Int) X).mono ?_
          rw [r1.out.1]
          rintro e w5 ⟨rfl, h5⟩
          have HD5 := Lib.hid h5
          clear h5
          go_wp2_with fail
          refine (sync_L HD5.out).mono ?_
          rw [r1.out.2]
          rintro e w6 ⟨rfl, h6⟩
          have HD6 := Lib.hid h6
          clear h6
          go_wp2_with fail
          go_roundw
          case rel => exact ⟨n + 1, _, by omega, by go_num, HD6, r2⟩
          case measure => simp [intOf]; omega
        · have hifi : ¬ (n : Int) < (f : Int) := by omega
          have r1 := Lib.hid (ST.out.2.1 (by omega))
          have r2 := Lib.hid ST.out.2.2
          go_wp2_with fail
          refine (fill_is _ _ (by decide) X HX).mono ?_
          rintro e w4 ⟨rfl, b4⟩
          have HD4 := Lib.hid (HD.out.step b4)
          clear b4
          go_wp2_with fail
          refine (write_L HD4.out (q : Int) X).mono ?_
          rw [r1.out.1]
          rintro e w5 ⟨rfl, h5⟩
          have HD5 := Lib.hid h5
          clear h5
          go_wp2_with fail
          refine (sync_L HD5.out).mono ?_
          rw [r1.out.2]
          rintro e w6 ⟨rfl, h6⟩
          have HD6 := Lib.hid h6
          clear h6
          go_wp2_with fail
          go_roundw
          case rel => exact ⟨n + 1, _, by omega, by go_num, HD6, r2⟩
          case measure => simp [intOf]; omega
      · obtain rfl : n = m := by omega
        have hli : ¬ (n : Int) < (n : Int) := by omega
        have EN := Lib.hid (invF_end st f n HI.out Y.data.toList HYl.out)
        by_cases hmf : n ≤ f
        · have hmfi : (n : Int) ≤ (f : Int) := by omega
          have e1 : st.up = true := by rw [EN.out.1]; simp [hmf]
          have e2 : (st.read 0).2 = 0 := by rw [EN.out.2.1]; exact if_pos hmf
          obtain ⟨R, hR⟩ : ∃ R, Str (st.read 0).1 = R := ⟨_, rfl⟩
          have E1 := Lib.hid e1
          have E2 := Lib.hid e2
          have ER := Lib.hid hR
          clear e1 e2 hR hmf
          go_wp2_with fail
          refine (up_L HD.out).mono ?_
          rw [E1.out]
          rintro e w4 ⟨rfl, rfl⟩
          go_wp2_with fail
          refine (read_L HD.out 0).mono ?_
          rw [E2.out, ER.out]
          rintro e w5 ⟨rfl, rfl⟩
          go_wp2_with fail
          refine (crash_L HD.out none 0 0 [] (.inl ⟨rfl, rfl, rfl, rfl⟩)).mono ?_
          rw [List.take_nil]
          rintro e w6 ⟨rfl, h6⟩
          have HD6 := Lib.hid h6
          clear h6
          go_wp2_with fail
          refine (up_L HD6.out).mono ?_
          rw [EN.out.2.2.1]
          rintro e w7 ⟨rfl, rfl⟩
          go_wp2_with fail
          refine (fill_is _ _ (by decide) Y HY).mono ?_
          rintro e w8 ⟨rfl, b8⟩
          have HD8 := Lib.hid (HD6.out.step b8)
          clear b8
          go_wp2_with fail
          refine (write_L HD8.out 0 Y).mono ?_
          rw [EN.out.2.2.2]
          rintro e w9 ⟨rfl, h9⟩
          have HB9 := Lib.hid h9.below
          clear h9
          go_wp2_with fail
          go_ret
          first | exact ⟨rfl, HB9.out⟩ | exact ⟨ret_true (by simp; omega), HB9.out⟩
        · have hmfi : ¬ (n : Int) ≤ (f : Int) := by omega
          have e1 : st.up = false := by rw [EN.out.1]; simp; omega
          have e2 : (st.read 0).2 = 5 := by rw [EN.out.2.1]; exact if_neg hmf
          obtain ⟨R, hR⟩ : ∃ R, Str (st.read 0).1 = R := ⟨_, rfl⟩
          have E1 := Lib.hid e1
          have E2 := Lib.hid e2
          have ER := Lib.hid hR
          clear e1 e2 hR hmf
          go_wp2_with fail
          refine (up_L HD.out).mono ?_
          rw [E1.out]
          rintro e w4 ⟨rfl, rfl⟩
          go_wp2_with fail
          refine (read_L HD.out 0).mono ?_
          rw [E2.out, ER.out]
          rintro e w5 ⟨rfl, rfl⟩
          go_wp2_with fail
          refine (crash_L HD.out none 0 0 [] (.inl ⟨rfl, rfl, rfl, rfl⟩)).mono ?_
          rw [List.take_nil]
          rintro e w6 ⟨rfl, h6⟩
          have HD6 := Lib.hid h6
          clear h6
          go_wp2_with fail
          refine (up_L HD6.out).mono ?_
          rw [EN.out.2.2.1]
          rintro e w7 ⟨rfl, rfl⟩
          go_wp2_with fail
          refine (fill_is _ _ (by decide) Y HY).mono ?_
          rintro e w8 ⟨rfl, b8⟩
          have HD8 := Lib.hid (HD6.out.step b8)
          clear b8
          go_wp2_with fail
          refine (write_L HD8.out 0 Y).mono ?_
          rw [EN.out.2.2.2]
          rintro e w9 ⟨rfl, h9⟩
          have HB9 := Lib.hid h9.below
          clear h9
          go_wp2_with fail
          go_ret
          first | exact ⟨rfl, HB9.out⟩ | exact ⟨ret_true (by simp; omega), HB9.out⟩
theorem norm_mod (a : Int) (k : Nat) (hk : 0 < k) : ∃ f : Nat, f < k ∧ ((a < 0 ∧ -((a + 1).tmod (k : Int)) = (f : Int)) ∨ (0 ≤ a ∧ a % (k : Int) = (f : Int))) := by
  by_cases h0 : a < 0
  · refine ⟨((-(a + 1)) % (k : Int)).toNat, ?_, .inl ⟨h0, ?_⟩⟩
    · have := Int.emod_lt_of_pos (-(a + 1)) (show (0 : Int) < (k : Int) by omega)
      omega
    · have e : (a + 1).tmod (k : Int) = -((-(a + 1)).tmod (k : Int)) := by rw [Int.neg_tmod, Int.neg_neg]
      rw [e, Int.tmod_eq_emod_of_nonneg (by omega)]
      have := Int.emod_nonneg (-(a + 1)) (show (k : Int) ≠ 0 by omega)
      omega
  · refine ⟨(a % (k : Int)).toNat, ?_, .inr ⟨by omega, ?_⟩⟩
    · have := Int.emod_lt_of_pos a (show (0 : Int) < (k : Int) by omega)
      omega
    · have := Int.emod_nonneg a (show (k : Int) ≠ 0 by omega)
      omega
theorem i64_range (a : Int) (v : (Lit.int .i64 a).wf = true) : -9223372036854775808 ≤ a ∧ a ≤ 9223372036854775807 := by
  simp only [Lit.wf, Bool.and_eq_true, decide_eq_true_eq] at v
  exact v
theorem diskFuse_law (a0 a1 : Int) (w : World) (v0 : (Lit.int .i64 a0).wf = true) (v1 : (Lit.int .i64 a1).wf = true) :
    Calls Try.prog 5 #[.int .i64 a0, .int .i64 a1] w fun e w' => e = .returned (.bool true) ∧ Below w.heap.size w w' := by
  obtain ⟨f, hf, hf2⟩ := norm_mod a0 31 (by decide)
  obtain ⟨m, hm, hm2⟩ := norm_mod a1 31 (by decide)
  have r0 := i64_range a0 v0
  have r1 := i64_range a1 v1
  exact diskFuse_walk a0 a1 f m w r0.1 r0.2 r1.1 r1.2 hf2 hm2 hf hm
end Go.Proofs.Yteaiiiikehimgaa
