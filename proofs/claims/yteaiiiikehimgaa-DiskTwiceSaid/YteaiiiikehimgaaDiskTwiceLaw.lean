import Derived.Test.YteaiiiikehimgaaDiskTwiceMath
import Derived.Test.YteaiiiikehimgaaDiskLastsLaw
namespace Go.Proofs.Yteaiiiikehimgaa
open Go.RowKit
set_option linter.unusedVariables false
set_option linter.unusedSimpArgs false
set_option maxHeartbeats 6400000 in
set_option maxRecDepth 20000 in
-- frame: sized
theorem diskTwice_law (a : Option Addr) (len cap : Nat) (ss : List ByteArray) (ka : Option Addr) (klen kcap : Nat) (zs1 : List Int) (ma : Option Addr) (mlen mcap : Nat) (zs2 : List Int) (w : World)
    (hk : IsStrs w a len cap ss) (hz : ∀ j, j < len → (ss.getD j ByteArray.empty).size ≤ 140737488351232) (hk1 : IsInts .i64 w ka klen kcap zs1) (hk2 : IsInts .i64 w ma mlen mcap zs2) :
    Calls Try.prog 7 #[.slice a len cap, .slice ka klen kcap, .slice ma mlen mcap] w fun e w' => e = .returned (.bool true) ∧ Below w.heap.size w w' := by
  have NY := Lib.hid fun w => new_yes w 10 (by decide) (by decide)
  have HK := Lib.hid hk
  have HK1 := Lib.hid hk1
  have HK2 := Lib.hid hk2
  have HZ := Lib.hid hz
  have hlc : len ≤ cap ∧ cap ≤ maxLen := by
    rcases hk with ⟨rfl, rfl, rfl, rfl⟩ | ⟨x, rfl, h1, h2, _⟩
    · exact ⟨Nat.le_refl _, by decide⟩
    · exact ⟨h1, h2⟩
  have hlb : (len : Int) ≤ 9223372036854775807 := by have := hlc.2; have := hlc.1; unfold maxLen at *; omega
  obtain ⟨Z, HZ0⟩ : ∃ Z, Hid (Str zs = Z) := ⟨_, Lib.hid rfl⟩
  clear hk hlc hz hk1 hk2
  go_enter Try.func7, Try.ntmps7
  try simp only [List.append_eq, List.cons_append, List.nil_append]
  go_wp2_with fail
  refine (examples_any _).mono ?_
  rintro e w1 ⟨rfl, bb⟩
  have BB := Lib.hid bb
  clear bb
  go_wp2_with fail
  refine (NY.out _).mono ?_
  intro e w2 hmade
  obtain ⟨d, rfl, hd⟩ := made_L BB.out hmade
  have pn := ptr_nil ⟨d, 0, none⟩
  obtain ⟨w3, hw3⟩ : ∃ w3, w2.alloc (.cells #[.bool false, .bool false, .bool false, .bool false, .bool false, .bool false, .bool false, .bool false, .bool false, .bool false] 51) = w3 := ⟨_, rfl⟩
  obtain ⟨g, hg⟩ : ∃ g, w2.heap.size = g := ⟨_, rfl⟩
  have HR : Hid (RowsT w w3 d g (.slice none 0 0) (DkS.fresh 10) (List.replicate 10 false) []) := Lib.hid (by
    rw [← hw3, ← hg]
    obtain ⟨F, h1, h2, h3, h4⟩ := (DkG.of hd).alloc (.cells #[.bool false, .bool false, .bool false, .bool false, .bool false, .bool false, .bool false, .bool false, .bool false, .bool false] 51)
    refine ⟨⟨F, h1, h2, h3, fun k hk => h4 k (.inr (hk.resolve_right (fun hx => by cases hx)))⟩, ?_, World.ownsRow_nil _ _ _ _, (by intro hx; cases hx), hd.below.size, fun k hx => by cases hx⟩
    unfold Bls
    rw [heap_alloc_new]
    rfl)
  have HI : Hid (InvT (DkS.fresh 10) (List.replicate 10 false) ∧ (DkS.fresh 10).L.map (·.1) = ([] : List Nat)) := Lib.hid ⟨invT_zero, rfl⟩
  clear hd hmade
  generalize DkS.fresh 10 = st0 at HR HI
  generalize List.replicate 10 false = M0 at HR HI
  go_wp2_with fail
  -- the writes
  go_loopw [10, 12, 13] (fun vo i _ wr => ∃ (n : Nat) (st : DkS) (M : List Bool) (O : List Nat), n ≤ len ∧ n ≤ 20 ∧ O.length ≤ n ∧ i = .int .i64 (n : Int) ∧ Hid (RowsT w wr d g vo st M O) ∧ Hid (InvT st M ∧ st.L.map (·.1) = O)) (fun _ i _ _ => 21 - (intOf i).toNat)
  case atStart => exact ⟨0, _, _, [], Nat.zero_le _, by omega, Nat.le_refl _, rfl, HR, HI⟩
  case round =>
    obtain ⟨n, st, M, O, hn, hn20, hO, rfl, HR, HI⟩ := hrel
    by_cases hgo : n < len ∧ n < 20
    · obtain ⟨hlt, h20⟩ := hgo
      have hli : (n : Int) < (len : Int) := by omega
      have h20i : (n : Int) < 20 := by omega
      obtain ⟨x, s, hx, hat, hse, _⟩ := text_cell HK.out HR.out.dk.below n hlt
      have hsz : s.size ≤ 140737488351232 := by rw [← hse]; exact HZ.out n hlt
      subst hx
      clear hse
      have hszi : (s.size : Int) ≤ 140737488351232 := by omega
      have hs0 : 0 ≤ (s.size : Int) := by omega
      obtain ⟨k, hk⟩ : ∃ k, (3 * n + s.size) % 10 = k := ⟨_, rfl⟩
      have hk10 : k < 10 := by omega
      have hki : (3 * (n : Int) + (s.size : Int)) % 10 = (k : Int) := by omega
      have hki2 : (k : Int) < 10 := by omega
      obtain ⟨X, HX⟩ : ∃ X, Hid (Str (fillT s.data.toList) = X) := ⟨_, Lib.hid rfl⟩
      have HXd : Hid (X.data.toList = fillT s.data.toList) := Lib.hid (by rw [← HX.out, Str_list])
      have ST := Lib.hid (invT_step st M HI.out.1 k hk10 _ (fillT_len s.data.toList))
      have hML : Hid (k < M.length) := Lib.hid (by rw [HI.out.1.2.2.2.1]; exact hk10)
      have HO := Lib.hid HI.out.2
      clear hk HI
      go_wp2_with fail
      refine (fill_is s _ (by omega) X HX).mono ?_
      rintro e w4 ⟨rfl, b4⟩
      have HR4 := Lib.hid (HR.out.step b4)
      clear b4
      go_wp2_with fail
      refine (HR4.out.write (k : Int) X).mono ?_
      rw [HXd.out, ST.out.1]
      rintro e w5 ⟨rfl, h5⟩
      have HR5 := Lib.hid h5
      clear h5
      have c5 := HR5.out.fl.cell k hML.out
      have f5 := HR5.out.fl.free k
      by_cases hm : M.getD k false = true
      · rw [hm] at c5
        have HL : Hid ((st.write (k : Int) (fillT s.data.toList)).1.L.map (·.1) = O) := Lib.hid ((ST.out.2.2.1 hm).trans HO.out)
        have HR6 := Lib.hid (HR5.out.mark k)
        have HI6 := Lib.hid ST.out.2.1
        clear hm ST
        generalize (st.write (k : Int) (fillT s.data.toList)).1 = st' at *
        go_wp2_with fail
        go_roundw
        case rel => exact ⟨n + 1, st', M.set k true, O, by omega, by omega, by omega, by go_num, HR6, Lib.hid ⟨HI6.out, HL.out⟩⟩
        case measure => simp [intOf]; omega
      · have hm : M.getD k false = false := by simpa using hm
        rw [hm] at c5
        have HL : Hid ((st.write (k : Int) (fillT s.data.toList)).1.L.map (·.1) = O ++ [k]) := Lib.hid ((ST.out.2.2.2 hm).trans (by rw [HO.out]))
        have HI6 := Lib.hid ST.out.2.1
        obtain ⟨v', w6, hap, h6⟩ := HR5.out.append k (by omega)
        have c6 := h6.fl.cell k hML.out
        have f6 := h6.fl.free k
        rw [hm] at c6
        have HR6 := Lib.hid (h6.mark k)
        clear hm ST h6
        generalize (st.write (k : Int) (fillT s.data.toList)).1 = st' at *
        go_wp2_with (at_builtin; refine append_run rfl (.tmp 65) (.tmp 67) 29 rfl _ _ _ rfl rfl hap ?_)
        go_roundw
        case rel => exact ⟨n + 1, st', M.set k true, O ++ [k], by omega, by omega, by simp; omega, by go_num, HR6, Lib.hid ⟨HI6.out, HL.out⟩⟩
        case measure => simp [intOf]; omega
    · rcases (by omega : ¬ (n : Int) < (len : Int) ∨ ((n : Int) < (len : Int) ∧ ¬ (n : Int) < 20)) with hli | ⟨hli, h20i⟩
      all_goals
        go_wp2_with fail
        refine (HR.out.loose HI.out.2).mono ?_
        rintro e w6 ⟨v, rfl, hv, h6⟩
        have HR6 := Lib.hid h6
        have HV := Lib.hid hv
        clear h6 hv
        go_wp2_with fail
        refine (numbers_same _ v _ O HV.out (RowI.of HR6.out.row)).mono ?_
        rintro e w7 ⟨rfl, b7⟩
        have HR7 := Lib.hid (HR6.out.step b7)
        clear b7 HV HR6
        go_wp2_with fail
        refine (HR7.out.crash ka klen kcap zs1 HK1.out).mono ?_
        rintro e w8 ⟨rfl, h8⟩
        have HE := Lib.hid (invT_crash st M HI.out.1 (zs1.take klen))
        obtain ⟨w9, hw9⟩ : ∃ w9, w8.alloc (.cells #[.string ⟨#[]⟩, .string ⟨#[]⟩, .string ⟨#[]⟩, .string ⟨#[]⟩, .string ⟨#[]⟩, .string ⟨#[]⟩, .string ⟨#[]⟩, .string ⟨#[]⟩, .string ⟨#[]⟩, .string ⟨#[]⟩] 53) = w9 := ⟨_, rfl⟩
        obtain ⟨g2, hg2⟩ : ∃ g2, w8.heap.size = g2 := ⟨_, rfl⟩
        have HL : Hid (LateT w w9 d g g2 (st.crash (zs1.take klen)) M (List.replicate 10 ⟨#[]⟩)) := Lib.hid (by rw [← hw9, ← hg2]; exact LateT.of h8)
        have HW := Lib.hid (wasT_zero (st.crash (zs1.take klen)))
        clear h8 HI HR7
        generalize st.crash (zs1.take klen) = st1 at HL HW HE
        generalize (List.replicate 10 (⟨#[]⟩ : ByteArray)) = W0 at HL HW
        go_wp2_with fail
        -- what is read
        go_loopw [16] (fun i wr => ∃ (j : Nat) (W : List ByteArray), j ≤ 10 ∧ i = .int .i64 (j : Int) ∧ Hid (LateT w wr d g g2 st1 M W) ∧ Hid (WasT st1 W j)) (fun i _ => 11 - (intOf i).toNat)
        case atStart => exact ⟨0, W0, by omega, rfl, HL, HW⟩
        case round =>
          obtain ⟨j, W, hj, rfl, HL, HW⟩ := hrel
          by_cases hlj : j < 10
          · have hji : (j : Int) < 10 := by omega
            obtain ⟨X, HX⟩ : ∃ X, Hid (Str (st1.S.getD j []) = X) := ⟨_, Lib.hid rfl⟩
            have hWl := HW.out.1
            have c9 := HL.out.tx.cell j (by omega)
            have f9 := HL.out.tx.free j
            generalize W[j]'(by omega) = old at c9
            have HL2 := Lib.hid (HL.out.put j X)
            have HW2 : Hid (WasT st1 (W.set j X) (j + 1)) := Lib.hid (by rw [← HX.out]; exact wasT_step st1 W j hlj HW.out)
            clear hWl
            go_wp2_with fail
            refine (HL.out.read HE.out j hlj).mono ?_
            rw [HX.out]
            rintro e w10 ⟨rfl, rfl⟩
            go_wp2_with fail
            go_roundw
            case rel => exact ⟨j + 1, W.set j X, by omega, by go_num, HL2, HW2⟩
            case measure => simp [intOf]; omega
          · have hji : ¬ (j : Int) < 10 := by omega
            have HW3 : Hid (WasT st1 W 10) := Lib.hid (by have := HW.out; rw [show j = 10 by omega] at this; exact this)
            go_wp2_with fail
            refine (HL.out.crash HE.out ma mlen mcap zs2 HK2.out).mono ?_
            rintro e w11 ⟨rfl, h11⟩
            have HL3 := Lib.hid h11
            clear h11 HW HL
            go_wp2_with fail
            -- what is read again
            go_loopw [17, 18, 19] (fun i _ _ wr => ∃ q : Nat, q ≤ 10 ∧ i = .int .i64 (q : Int) ∧ Hid (LateT w wr d g g2 st1 M W)) (fun i _ _ _ => 11 - (intOf i).toNat)
            case atStart => exact ⟨0, by omega, rfl, HL3⟩
            case round =>
              obtain ⟨q, hq, rfl, HL⟩ := hrel
              by_cases hlq : q < 10
              · have hqi : (q : Int) < 10 := by omega
                obtain ⟨X, HX⟩ : ∃ X, Hid (Str (st1.S.getD q []) = X) := ⟨_, Lib.hid rfl⟩
                have cx : wr.cell? ⟨g2, q, none⟩ = some (.string X) := by
                  have h1 := HW3.out.2 q hlq
                  rw [HX.out] at h1
                  obtain ⟨h2, h3⟩ := List.getElem?_eq_some_iff.1 h1
                  rw [HL.out.tx.cell q h2, h3]
                have cm := HL.out.fl.cell q (by rw [HE.out.2.2.2.2.1]; exact hlq)
                by_cases hm : M.getD q false = true
                · rw [hm] at cm
                  clear hm
                  go_wp2_with fail
                  refine (HL.out.read HE.out q hlq).mono ?_
                  rw [HX.out]
                  rintro e w12 ⟨rfl, rfl⟩
                  go_wp2_with fail
                  go_roundw
                  case rel => exact ⟨q + 1, by omega, by go_num, HL⟩
                  case measure => simp [intOf]; omega
                · have hm : M.getD q false = false := by simpa using hm
                  rw [hm] at cm
                  obtain rfl : X = Z := by rw [← HX.out, HE.out.2.2.2.2.2 q hlq hm]; exact HZ0.out
                  obtain ⟨w4, hmk, hrow, hbel⟩ := made_bytes wr 256 256 (Nat.le_refl _) (by decide)
                  have hmk' : (Instr.makeSlice 39 (.int .i64 256) (.int .i64 256)).run Try.prog wr = .ok (.slice (some ⟨wr.heap.size, 0, none⟩) 256 256) w4 := hmk
                  have hcv := hrow.conv 256 256 (by rw [List.length_replicate]; exact Nat.le_refl _)
                  have hz2 : Str ((List.replicate 256 (0 : UInt8)).take 256) = X := by
                    rw [List.take_of_length_le (by rw [List.length_replicate]; exact Nat.le_refl _)]
                    exact HZ0.out
                  rw [hz2] at hcv
                  have HL4 := Lib.hid (HL.out.step hbel)
                  clear hmk hrow hbel hz2 hm
                  go_wp2_with fail
                  refine (HL.out.read HE.out q hlq).mono ?_
                  rw [HX.out]
                  rintro e w12 ⟨rfl, rfl⟩
                  go_wp2_with fail
                  go_roundw
                  case rel => exact ⟨q + 1, by omega, by go_num, HL4⟩
                  case measure => simp [intOf]; omega
              · have hqi : ¬ (q : Int) < 10 := by omega
                go_wp2_with fail
                refine (HL.out.loose HE.out).mono ?_
                rintro e w13 ⟨y, yc, rfl, hb⟩
                have HB := Lib.hid hb
                clear hb
                go_wp2_with fail
                go_ret
                exact ⟨rfl, HB.out⟩
end Go.Proofs.Yteaiiiikehimgaa
