import Derived.Test.YteaiiiikehimgaaDiskG
import Derived.Test.YteaiiiikehimgaaDiskFuseLaw
namespace Go.Proofs.Yteaiiiikehimgaa
open Go.RowKit
set_option linter.unusedVariables false
set_option linter.unusedSimpArgs false
theorem text_cell {w wr : World} {a : Option Addr} {len cap : Nat} {ss : List ByteArray} (hk : IsStrs w a len cap ss) (hb : Below w.heap.size w wr) (j : Nat) (hj : j < len) : ∃ x s, a = some x ∧ wr.cell? (x.add j) = some (.string s) ∧ ss.getD j ByteArray.empty = s ∧ s.size ≤ maxLen := by
  rcases hk with ⟨rfl, rfl, rfl, rfl⟩ | ⟨x, rfl, h1, h2, h3, h4, h5⟩
  · omega
  · have hjl : j < ss.length := by omega
    refine ⟨x, _, rfl, ?_, rfl, ?_⟩
    · have hc := h4 j hjl
      have hlt : (x.add j).block < w.heap.size := by
        unfold World.cell? at hc
        cases hq : w.heap[(x.add j).block]? with
        | none => rw [hq] at hc; simp at hc
        | some o => exact (Array.getElem?_eq_some_iff.1 hq).1
      rw [World.cell?_of_block (hb.block _ hlt)]
      exact hc
    · rw [List.getD_eq_getElem?_getD, List.getElem?_eq_getElem hjl]
      exact h5 _ (List.getElem_mem hjl)
/-- The disk and the row of texts say the same. -/
def InvO (st : DkS) (W : List ByteArray) : Prop := st.up = true ∧ st.fuse = -1 ∧ st.S.length = 9 ∧ W = st.S.map Str
theorem invO_step (st : DkS) (W : List ByteArray) (h : InvO st W) (k : Nat) (hk : k < 9) (T : List UInt8) (hT : T.length = 256) : (st.write (k : Int) T).2 = 0 ∧ InvO (st.write (k : Int) T).1 (W.set k (Str T)) := by
  obtain ⟨h1, h2, h3, h4⟩ := h
  rw [write_done st k T h1 (by omega) hT (by omega)]
  refine ⟨rfl, by rw [wrote_up]; exact h1, by rw [wrote_fuse, h2]; rfl, by rw [wrote_S, List.length_set]; exact h3, ?_⟩
  rw [wrote_S, h4, List.map_set]
theorem invO_read (st : DkS) (W : List ByteArray) (h : InvO st W) (j : Nat) (hj : j < 9) : (st.read (j : Int)).2 = 0 ∧ W[j]? = some (Str (st.read (j : Int)).1) := by
  obtain ⟨h1, h2, h3, h4⟩ := h
  rw [read_done st j h1 (by omega)]
  refine ⟨rfl, ?_⟩
  rw [h4, List.getElem?_map, List.getElem?_eq_getElem (by omega)]
  rfl
theorem invO_end (st : DkS) (W : List ByteArray) (h : InvO st W) (E : List UInt8) : st.read 9 = ([], 1) ∧ st.write (-1) E = (st, 1) ∧ st.write 0 [] = (st, 1) := by
  obtain ⟨h1, h2, h3, h4⟩ := h
  refine ⟨?_, ?_, ?_⟩
  · unfold DkS.read
    rw [if_neg (by rw [h1]; simp), if_pos (by rw [h3]; rfl)]
  · unfold DkS.write
    rw [if_neg (by rw [h1]; simp), if_pos (by rfl)]
  · unfold DkS.write
    rw [if_neg (by rw [h1]; simp), if_pos (by rw [h3]; rfl)]
theorem invO_zero (Z : ByteArray) (hZ : Str zs = Z) : InvO (DkS.fresh 9) (List.replicate 9 Z) := by
  refine ⟨rfl, rfl, rfl, ?_⟩
  rw [← hZ]
  show _ = (List.replicate 9 zs).map Str
  rw [List.map_replicate]
set_option maxHeartbeats 6400000 in
set_option maxRecDepth 20000 in
theorem diskOwn_walk (a : Option Addr) (len cap : Nat) (ss : List ByteArray) (at_ : Int) (f : Nat) (w : World) (hk : IsStrs w a len cap ss) (a0 : -9223372036854775808 ≤ at_) (a1 : at_ ≤ 9223372036854775807)
    (hf : (at_ < 0 ∧ -((at_ + 1).tmod 9) = (f : Int)) ∨ (0 ≤ at_ ∧ at_ % 9 = (f : Int))) (hf9 : f < 9) :
    Calls Try.prog 6 #[.slice a len cap, .int .i64 at_] w fun e w' => e = .returned (.bool true) ∧ Below w.heap.size w w' := by
  have NY := Lib.hid fun w => new_yes w 9 (by decide) (by decide)
  have HK := Lib.hid hk
  have hlc : len ≤ cap ∧ cap ≤ maxLen := by
    rcases hk with ⟨rfl, rfl, rfl, rfl⟩ | ⟨x, rfl, h1, h2, _⟩
    · exact ⟨Nat.le_refl _, by decide⟩
    · exact ⟨h1, h2⟩
  have hlb : (len : Int) ≤ 9223372036854775807 := by have := hlc.2; have := hlc.1; unfold maxLen at *; omega
  obtain ⟨Z, HZ⟩ : ∃ Z, Hid (Str zs = Z) := ⟨_, Lib.hid rfl⟩
  obtain ⟨E, HE⟩ : ∃ E, Hid (Str (fillT (⟨#[]⟩ : ByteArray).data.toList) = E) := ⟨_, Lib.hid rfl⟩
  clear hk hlc
  rcases hf with ⟨ha, hr⟩ | ⟨ha, hr⟩
  all_goals
    go_enter Try.func6, Try.ntmps6
    try simp only [List.append_eq, List.cons_append, List.nil_append]
    go_wp2_with fail
    refine (examples_any _).mono ?_
    rintro e w1 ⟨rfl, bb⟩
    have BB := Lib.hid bb
    clear bb
    go_wp2_with fail
    refine (NY.out _).mono ?_
    intro e w2 hmade
    obtain ⟨d, rfl, hd⟩ := made_L BB.out hmade
    have pn := ptr_nil ⟨d, 0, none⟩
    obtain ⟨w3, hw3⟩ : ∃ w3, w2.alloc (.cells #[.string ⟨#[]⟩, .string ⟨#[]⟩, .string ⟨#[]⟩, .string ⟨#[]⟩, .string ⟨#[]⟩, .string ⟨#[]⟩, .string ⟨#[]⟩, .string ⟨#[]⟩, .string ⟨#[]⟩] 49) = w3 := ⟨_, rfl⟩
    obtain ⟨g, hg⟩ : ∃ g, w2.heap.size = g := ⟨_, rfl⟩
    have HG : Hid (DkG w w3 (fun k => k = g) d (DkS.fresh 9)) := Lib.hid (by
      rw [← hw3, ← hg]
      obtain ⟨F, h1, h2, h3, h4⟩ := (DkG.of hd).alloc (.cells #[.string ⟨#[]⟩, .string ⟨#[]⟩, .string ⟨#[]⟩, .string ⟨#[]⟩, .string ⟨#[]⟩, .string ⟨#[]⟩, .string ⟨#[]⟩, .string ⟨#[]⟩, .string ⟨#[]⟩] 49)
      exact ⟨F, h1, h2, h3, fun k hk => h4 k (.inr hk)⟩)
    have HT : Hid (Txs 49 w3 g (List.replicate 0 Z ++ List.replicate (9 - 0) ⟨#[]⟩)) := Lib.hid (by
      unfold Txs
      rw [← hw3, ← hg, heap_alloc_new]
      rfl)
    have hwg : w.heap.size ≤ g := by rw [← hg]; exact hd.below.size
    clear hd hmade
    go_wp2_with fail
    -- the row of texts
    go_loopw [9] (fun i wr => ∃ n : Nat, n ≤ 9 ∧ i = .int .i64 (n : Int) ∧ Hid (DkG w wr (fun k => k = g) d (DkS.fresh 9)) ∧ Hid (Txs 49 wr g (List.replicate n Z ++ List.replicate (9 - n) ⟨#[]⟩))) (fun i _ => 10 - (intOf i).toNat)
    case atStart => exact ⟨0, by omega, rfl, HG, HT⟩
    case round =>
      obtain ⟨n, hn, rfl, HG, HT⟩ := hrel
      by_cases hlt : n < 9
      · have hli : (n : Int) < 9 := by omega
        obtain ⟨w4, hmk, hrow, hbel⟩ := made_bytes wr 256 256 (Nat.le_refl _) (by decide)
        have hmk' : (Instr.makeSlice 39 (.int .i64 256) (.int .i64 256)).run Try.prog wr = .ok (.slice (some ⟨wr.heap.size, 0, none⟩) 256 256) w4 := hmk
        have hcv := hrow.conv 256 256 (by rw [List.length_replicate]; exact Nat.le_refl _)
        have hz2 : Str ((List.replicate 256 (0 : UInt8)).take 256) = Z := by
          rw [List.take_of_length_le (by rw [List.length_replicate]; exact Nat.le_refl _)]
          exact HZ.out
        rw [hz2] at hcv
        obtain ⟨hg4, kp4⟩ := HG.out.step hbel
        have ht4 : Txs 49 w4 g (List.replicate n Z ++ List.replicate (9 - n) ⟨#[]⟩) := HT.out.kept (kp4 g rfl)
        have c4 : w4.cell? ⟨g, n, none⟩ = some (.string ⟨#[]⟩) := by
          rw [ht4.cell n (by simp; omega)]
          congr 2
          rw [List.getElem_append_right (by simp)]
          simp
        have f4 := ht4.free n
        have HG5 : Hid (DkG w (w4.setCell ⟨g, n, none⟩ (.string Z)) (fun k => k = g) d (DkS.fresh 9)) := Lib.hid (hg4.own g rfl hwg ((Frm.refl _ _).setCell _ _ (.inl rfl)))
        have HT5 : Hid (Txs 49 (w4.setCell ⟨g, n, none⟩ (.string Z)) g (List.replicate (n + 1) Z ++ List.replicate (9 - (n + 1)) ⟨#[]⟩)) := Lib.hid (by
          have := ht4.set n Z
          have e : (List.replicate n Z ++ List.replicate (9 - n) (⟨#[]⟩ : ByteArray)).set n Z = List.replicate (n + 1) Z ++ List.replicate (9 - (n + 1)) ⟨#[]⟩ := by
            rw [List.set_append_right _ _ (by simp), List.length_replicate, Nat.sub_self]
            have e2 : List.replicate (9 - n) (⟨#[]⟩ : ByteArray) = ⟨#[]⟩ :: List.replicate (9 - (n + 1)) ⟨#[]⟩ := by
              rw [← List.replicate_succ]
              congr 1
              omega
            rw [e2, List.set_cons_zero, List.replicate_succ', List.append_assoc]
            rfl
          rw [e] at this
          exact this)
        clear hmk hrow hbel hz2 hg4 kp4 ht4
        go_wp2_with fail
        go_roundw
        case rel => exact ⟨n + 1, by omega, by go_num, HG5, HT5⟩
        case measure => simp [intOf]; omega
      · have hli : ¬ (n : Int) < 9 := by omega
        have hn9 : n = 9 := by omega
        have HI : Hid (InvO (DkS.fresh 9) (List.replicate 9 Z)) := Lib.hid (invO_zero Z HZ.out)
        have HT2 : Hid (Txs 49 wr g (List.replicate 9 Z)) := Lib.hid (by have := HT.out; rw [hn9] at this; simpa using this)
        clear HT hn9 hn hlt
        generalize DkS.fresh 9 = st0 at *
        generalize List.replicate 9 Z = W0 at *
        go_wp2_with fail
        -- the writes
        go_loopw [4, 10, 11] (fun _ i _ wr => ∃ (n : Nat) (st : DkS) (W : List ByteArray), n ≤ len ∧ n ≤ 30 ∧ i = .int .i64 (n : Int) ∧ Hid (DkG w wr (fun k => k = g) d st) ∧ Hid (Txs 49 wr g W) ∧ Hid (InvO st W)) (fun _ i _ _ => 31 - (intOf i).toNat)
        case atStart => exact ⟨0, _, _, Nat.zero_le _, by omega, rfl, HG, HT2, HI⟩
        case round =>
          obtain ⟨n, st, W, hn, hn30, rfl, HG, HT, HI⟩ := hrel
          by_cases hlt : n < len
          · have hli : (n : Int) < (len : Int) := by omega
            by_cases h30 : n < 30
            · have h30i : (n : Int) < 30 := by omega
              obtain ⟨k, hk⟩ : ∃ k, (f + n * n) % 9 = k := ⟨_, rfl⟩
              have hk9 : k < 9 := by omega
              have hp : n * n ≤ 29 * 29 := Nat.mul_le_mul (by omega) (by omega)
              have p0 : 0 ≤ (n : Int) * (n : Int) := by have : (n : Int) * (n : Int) = ((n * n : Nat) : Int) := by rw [Int.natCast_mul]
                                                        omega
              have p1 : (n : Int) * (n : Int) ≤ 841 := by have : (n : Int) * (n : Int) = ((n * n : Nat) : Int) := by rw [Int.natCast_mul]
                                                          omega
              have hki : ((f : Int) + (n : Int) * (n : Int)) % 9 = (k : Int) := by
                have : (n : Int) * (n : Int) = ((n * n : Nat) : Int) := by rw [Int.natCast_mul]
                omega
              obtain ⟨x, s, hx, hat, _, hsz⟩ := text_cell HK.out HG.out.below n hlt
              subst hx
              obtain ⟨X, HX⟩ : ∃ X, Hid (Str (fillT s.data.toList) = X) := ⟨_, Lib.hid rfl⟩
              have HXd : Hid (X.data.toList = fillT s.data.toList) := Lib.hid (by rw [← HX.out, Str_list])
              have ST := Lib.hid (invO_step st W HI.out k hk9 _ (fillT_len s.data.toList))
              have hsz2 : s.size ≤ 9223372036854775807 := by unfold maxLen at hsz; omega
              have hki2 : (k : Int) < 9 := by omega
              clear hk hp hsz
              go_wp2_with fail
              refine (fill_is s _ hsz2 X HX).mono ?_
              rintro e w4 ⟨rfl, b4⟩
              obtain ⟨hg4, kp4⟩ := HG.out.step b4
              have ht4 : Txs 49 w4 g W := HT.out.kept (kp4 g rfl)
              have hWl : W.length = 9 := by rw [HI.out.2.2.2, List.length_map]; exact HI.out.2.2.1
              have c4 := ht4.cell k (by omega)
              have f4 := ht4.free k
              generalize W[k]'(by omega) = old at c4
              have HG5 : Hid (DkG w (w4.setCell ⟨g, k, none⟩ (.string X)) (fun k => k = g) d st) := Lib.hid (hg4.own g rfl hwg ((Frm.refl _ _).setCell _ _ (.inl rfl)))
              have ht5 := ht4.set k X
              have c5 := ht5.cell k (by rw [List.length_set]; omega)
              rw [List.getElem_set_self] at c5
              have HT5 := Lib.hid ht5
              clear b4 hg4 kp4 ht4 ht5 hWl
              go_wp2_with fail
              refine (write_G HG5.out (k : Int) X).mono ?_
              rw [HXd.out, ST.out.1]
              rintro e w5 ⟨rfl, h5, k5⟩
              have HG6 := Lib.hid h5
              have HT6 : Hid (Txs 49 w5 g (W.set k X)) := Lib.hid (HT5.out.kept (k5 g rfl))
              have HI6 : Hid (InvO (st.write (k : Int) (fillT s.data.toList)).1 (W.set k X)) := Lib.hid (by rw [← HX.out]; exact ST.out.2)
              clear h5 k5
              go_wp2_with fail
              go_roundw
              case rel => exact ⟨n + 1, _, _, by omega, by omega, by go_num, HG6, HT6, HI6⟩
              case measure => simp [intOf]; omega
            · have h30i : ¬ (n : Int) < 30 := by omega
              go_wp2_with fail
              -- the reads
              go_loopw [12, 13, 14] (fun i _ _ wr => ∃ j : Nat, j ≤ 9 ∧ i = .int .i64 (j : Int) ∧ Hid (DkG w wr (fun k => k = g) d st) ∧ Hid (Txs 49 wr g W)) (fun i _ _ _ => 10 - (intOf i).toNat)
              case atStart => exact ⟨0, by omega, rfl, HG, HT⟩
              case round =>
                obtain ⟨j, hj, rfl, HG, HT⟩ := hrel
                by_cases hlt : j < 9
                · have hli : (j : Int) < 9 := by omega
                  have RD := Lib.hid (invO_read st W HI.out j hlt)
                  obtain ⟨X, HX⟩ : ∃ X, Hid (Str (st.read (j : Int)).1 = X) := ⟨_, Lib.hid rfl⟩
                  have cx : wr.cell? ⟨g, j, none⟩ = some (.string X) := by
                    have h1 := RD.out.2
                    rw [HX.out] at h1
                    obtain ⟨h2, h3⟩ := List.getElem?_eq_some_iff.1 h1
                    rw [HT.out.cell j h2, h3]
                  go_wp2_with fail
                  refine (read_G HG.out (j : Int)).mono ?_
                  rw [RD.out.1, HX.out]
                  rintro e w7 ⟨rfl, rfl⟩
                  go_wp2_with fail
                  go_roundw
                  case rel => exact ⟨j + 1, by omega, by go_num, HG, HT⟩
                  case measure => simp [intOf]; omega
                · obtain rfl : j = 9 := by omega
                  have EN := Lib.hid (invO_end st W HI.out E.data.toList)
                  go_wp2_with fail
                  refine (read_G HG.out 9).mono ?_
                  rw [EN.out.1]
                  rintro e w7 ⟨rfl, rfl⟩
                  go_wp2_with fail
                  refine (fill_is _ _ (by decide) E HE).mono ?_
                  rintro e w8 ⟨rfl, b8⟩
                  have HG8 := Lib.hid (HG.out.step b8).1
                  clear b8
                  go_wp2_with fail
                  refine (write_G HG8.out (-1) E).mono ?_
                  rw [EN.out.2.1]
                  rintro e w9 ⟨rfl, h9, _⟩
                  have HG9 := Lib.hid h9
                  clear h9
                  go_wp2_with fail
                  refine (write_G HG9.out 0 ⟨#[]⟩).mono ?_
                  rw [EN.out.2.2]
                  rintro e w10 ⟨rfl, h10, _⟩
                  have HB := Lib.hid h10.below
                  clear h10
                  go_wp2_with fail
                  go_ret
                  exact ⟨rfl, HB.out⟩
          · have hli : ¬ (n : Int) < (len : Int) := by omega
            go_wp2_with fail
            -- the reads
            go_loopw [12, 13, 14] (fun i _ _ wr => ∃ j : Nat, j ≤ 9 ∧ i = .int .i64 (j : Int) ∧ Hid (DkG w wr (fun k => k = g) d st) ∧ Hid (Txs 49 wr g W)) (fun i _ _ _ => 10 - (intOf i).toNat)
            case atStart => exact ⟨0, by omega, rfl, HG, HT⟩
            case round =>
              obtain ⟨j, hj, rfl, HG, HT⟩ := hrel
              by_cases hlt : j < 9
              · have hli : (j : Int) < 9 := by omega
                have RD := Lib.hid (invO_read st W HI.out j hlt)
                obtain ⟨X, HX⟩ : ∃ X, Hid (Str (st.read (j : Int)).1 = X) := ⟨_, Lib.hid rfl⟩
                have cx : wr.cell? ⟨g, j, none⟩ = some (.string X) := by
                  have h1 := RD.out.2
                  rw [HX.out] at h1
                  obtain ⟨h2, h3⟩ := List.getElem?_eq_some_iff.1 h1
                  rw [HT.out.cell j h2, h3]
                go_wp2_with fail
                refine (read_G HG.out (j : Int)).mono ?_
                rw [RD.out.1, HX.out]
                rintro e w7 ⟨rfl, rfl⟩
                go_wp2_with fail
                go_roundw
                case rel => exact ⟨j + 1, by omega, by go_num, HG, HT⟩
                case measure => simp [intOf]; omega
              · obtain rfl : j = 9 := by omega
                have EN := Lib.hid (invO_end st W HI.out E.data.toList)
                go_wp2_with fail
                refine (read_G HG.out 9).mono ?_
                rw [EN.out.1]
                rintro e w7 ⟨rfl, rfl⟩
                go_wp2_with fail
                refine (fill_is _ _ (by decide) E HE).mono ?_
                rintro e w8 ⟨rfl, b8⟩
                have HG8 := Lib.hid (HG.out.step b8).1
                clear b8
                go_wp2_with fail
                refine (write_G HG8.out (-1) E).mono ?_
                rw [EN.out.2.1]
                rintro e w9 ⟨rfl, h9, _⟩
                have HG9 := Lib.hid h9
                clear h9
                go_wp2_with fail
                refine (write_G HG9.out 0 ⟨#[]⟩).mono ?_
                rw [EN.out.2.2]
                rintro e w10 ⟨rfl, h10, _⟩
                have HB := Lib.hid h10.below
                clear h10
                go_wp2_with fail
                go_ret
                exact ⟨rfl, HB.out⟩
theorem diskOwn_law (a : Option Addr) (len cap : Nat) (ss : List ByteArray) (at_ : Int) (w : World) (hk : IsStrs w a len cap ss) (v1 : (Lit.int .i64 at_).wf = true) :
    Calls Try.prog 6 #[.slice a len cap, .int .i64 at_] w fun e w' => e = .returned (.bool true) ∧ Below w.heap.size w w' := by
  obtain ⟨f, hf, hf2⟩ := norm_mod at_ 9 (by decide)
  have r1 := i64_range at_ v1
  exact diskOwn_walk a len cap ss at_ f w hk r1.1 r1.2 hf2 hf
end Go.Proofs.Yteaiiiikehimgaa
