import Derived.Test.YteaiiiikehimgaaEx06
import Derived.Test.YteaiiiikehimgaaLastsMath
namespace Go.Proofs.Yteaiiiikehimgaa
open Go.RowKit
set_option linter.unusedVariables false
set_option linter.unusedSimpArgs false
theorem one_conv (b : UInt8) (w : World) : (convert 39 9 (.slice (some ⟨w.heap.size, 0, none⟩) 1 1)).run Try.prog (w.alloc (.cells #[vb b] 5)) = .ok (.string (Str [b])) (w.alloc (.cells #[vb b] 5)) := by
  have hrow : Byt 5 (w.alloc (.cells #[vb b] 5)) w.heap.size [b] := heap_alloc_new w _
  exact hrow.conv 1 1 (Nat.le_refl _)
theorem one_num (n : Nat) (h : n < 256) (w : World) : (convert 39 9 (.slice (some ⟨w.heap.size, 0, none⟩) 1 1)).run Try.prog (w.alloc (.cells #[.int .u8 (n : Int)] 5)) = .ok (.string (Str [UInt8.ofNat n])) (w.alloc (.cells #[.int .u8 (n : Int)] 5)) := by
  have := one_conv (UInt8.ofNat n) w
  have e : vb (UInt8.ofNat n) = .int .u8 (n : Int) := by unfold vb; rw [UInt8.toNat_ofNat', Nat.mod_eq_of_lt (by omega)]
  rwa [e] at this
/-- The text of a sector. -/
def tx (a : ByteArray) (n : Nat) : List UInt8 := fillT (a ++ Str [UInt8.ofNat n]).data.toList
theorem fill_num (a : ByteArray) (n : Nat) (w : World) (ha : a.size ≤ 140737488351232) (T : Nat → List UInt8) (HT : Hid (∀ n, tx a n = T n)) (U : ByteArray) (HU : Hid (a ++ Str [UInt8.ofNat n] = U)) (X : ByteArray) (HX : Hid (Str (T n) = X)) :
    Calls Try.prog 14 #[.string U] w fun e w' => e = .returned (.string X) ∧ Below w.heap.size w w' := by
  refine fill_is U w ?_ X (Lib.hid ?_)
  · rw [← HU.out, ByteArray.size_append, Str_size]
    show a.size + 1 ≤ _
    omega
  · rw [← HX.out, ← HT.out n, ← HU.out]
    rfl
theorem ints_len {k : IntKind} {w : World} {a : Option Addr} {len cap : Nat} {zs : List Int} (h : IsInts k w a len cap zs) : len ≤ zs.length := by
  rcases h with ⟨rfl, rfl, rfl, rfl⟩ | ⟨x, rfl, h1, h2, h3, h4, h5⟩
  · exact Nat.le_refl _
  · omega
theorem keep_cell {w wr : World} {ka : Option Addr} {klen kcap : Nat} {zs : List Int} (hk : IsInts .i64 w ka klen kcap zs) (hb : Below w.heap.size w wr) (j : Nat) (hj : j < klen) : ∃ x, ka = some x ∧ wr.cell? (x.add j) = some (.int .i64 (zs.getD j 0)) := by
  rcases hk with ⟨rfl, rfl, rfl, rfl⟩ | ⟨x, rfl, h1, h2, h3, h4, h5⟩
  · omega
  · refine ⟨x, rfl, ?_⟩
    have hc := h4 j (by omega)
    have hlt : (x.add j).block < w.heap.size := by
      unfold World.cell? at hc
      cases hq : w.heap[(x.add j).block]? with
      | none => rw [hq] at hc; simp at hc
      | some o => exact (Array.getElem?_eq_some_iff.1 hq).1
    rw [World.cell?_of_block (hb.block _ hlt)]
    exact hc
theorem lose_take (zs : List Int) (klen n : Nat) (h : klen ≤ zs.length) : (klen ≤ n → loseB (zs.take klen) n = true) ∧ (n < klen → loseB (zs.take klen) n = !(oddB (zs.getD n 0))) := by
  unfold loseB
  rw [List.length_take, Nat.min_eq_left h]
  refine ⟨fun hn => by simp [hn], fun hn => ?_⟩
  have e : (zs.take klen).getD n 0 = zs.getD n 0 := by
    rw [List.getD_eq_getElem?_getD, List.getElem?_take, if_pos hn, List.getD_eq_getElem?_getD]
  rw [e]
  have : decide (klen ≤ n) = false := by simp; omega
  rw [this, Bool.false_or]
theorem tmod_two (k : Int) : (k.tmod 2 = 0 ∧ oddB k = false) ∨ (k.tmod 2 = 1 ∧ oddB k = true) ∨ (k.tmod 2 = -1 ∧ oddB k = true) := by
  unfold oddB
  rcases Int.emod_two_eq k with h | h
  · left
    refine ⟨?_, by rw [h]; rfl⟩
    exact Int.tmod_eq_zero_of_dvd (Int.dvd_of_emod_eq_zero h)
  · right
    by_cases h0 : 0 ≤ k
    · left
      exact ⟨by rw [Int.tmod_eq_emod_of_nonneg h0, h], by rw [h]; rfl⟩
    · right
      refine ⟨?_, by rw [h]; rfl⟩
      have e : k.tmod 2 = -((-k).tmod 2) := by rw [Int.neg_tmod, Int.neg_neg]
      rw [e, Int.tmod_eq_emod_of_nonneg (by omega)]
      omega
set_option maxHeartbeats 6400000 in
set_option maxRecDepth 20000 in
theorem diskLasts_law (a b : ByteArray) (ka : Option Addr) (klen kcap : Nat) (zs : List Int) (w : World) (za : a.size ≤ 140737488351232) (zb : b.size ≤ 140737488351232) (hk : IsInts .i64 w ka klen kcap zs) :
    Calls Try.prog 4 #[.string a, .string b, .slice ka klen kcap] w fun e w' => e = .returned (.bool true) ∧ Below w.heap.size w w' := by
  obtain ⟨A, HA⟩ : ∃ A : Nat → List UInt8, Hid (∀ n, tx a n = A n) := ⟨_, Lib.hid fun _ => rfl⟩
  obtain ⟨B, HB⟩ : ∃ B : Nat → List UInt8, Hid (∀ n, tx b (n + 9) = B n) := ⟨_, Lib.hid fun _ => rfl⟩
  have HAl : Hid (∀ n, (A n).length = 256) := Lib.hid fun n => by rw [← HA.out]; exact fillT_len _
  have HBl : Hid (∀ n, (B n).length = 256) := Lib.hid fun n => by rw [← HB.out]; exact fillT_len _
  have NY := Lib.hid fun w => new_yes w 8 (by decide) (by decide)
  have HK := Lib.hid hk
  have hkc : klen ≤ kcap ∧ kcap ≤ maxLen := by
    rcases hk with ⟨rfl, rfl, rfl, rfl⟩ | ⟨x, rfl, h1, h2, _⟩
    · exact ⟨Nat.le_refl _, by decide⟩
    · exact ⟨h1, h2⟩
  clear hk
  go_enter Try.func4, Try.ntmps4
  try simp only [List.append_eq, List.cons_append, List.nil_append]
  go_wp2_with fail
  refine (examples_any _).mono ?_
  rintro e w1 ⟨rfl, bb⟩
  have BB := Lib.hid bb
  clear bb
  go_wp2_with fail
  refine (NY.out _).mono ?_
  intro e w2 hmade
  obtain ⟨d, rfl, hd⟩ := made_L BB.out hmade
  have HD := Lib.hid hd
  have HI : Hid (InvA A (DkS.fresh 8) 0) := Lib.hid ⟨rfl, rfl, rfl, fun j hj => by omega⟩
  clear hd hmade
  have pn := ptr_nil ⟨d, 0, none⟩
  go_wp2_with fail
  -- the first writes
  go_loopw [10] (fun i wr => ∃ (n : Nat) (st : DkS), n ≤ 8 ∧ i = .int .i64 (n : Int) ∧ Hid (DkL w wr d st) ∧ Hid (InvA A st n)) (fun i _ => 9 - (intOf i).toNat)
  case atStart => exact ⟨0, _, by omega, rfl, HD, HI⟩
  case round =>
    obtain ⟨n, st, hn, rfl, HD, HI⟩ := hrel
    by_cases hlt : n < 8
    · have hli : (n : Int) < 8 := by omega
      have ST := Lib.hid (invA_step A HAl.out st n hlt HI.out)
      obtain ⟨C, HC⟩ : ∃ C, Hid (Str [UInt8.ofNat n] = C) := ⟨_, Lib.hid rfl⟩
      obtain ⟨U, HU⟩ : ∃ U, a ++ C = U := ⟨_, rfl⟩
      have HU2 : Hid (a ++ Str [UInt8.ofNat n] = U) := Lib.hid (by rw [HC.out]; exact HU)
      obtain ⟨X, HX⟩ : ∃ X, Hid (Str (A n) = X) := ⟨_, Lib.hid rfl⟩
      have HXd : Hid (X.data.toList = A n) := Lib.hid (by rw [← HX.out, Str_list])
      have hCz : C.size = 1 := by rw [← HC.out, Str_size]; rfl
      have hcv := one_num n (by omega) wr
      rw [HC.out] at hcv
      have HDa := Lib.hid (HD.out.step ((Below.refl wr.heap.size wr).alloc (Nat.le_refl _) (.cells #[.int .u8 (n : Int)] 5)))
      go_wp2_with fail
      refine (fill_num a n _ za A HA U HU2 X HX).mono ?_
      rintro e w4 ⟨rfl, b4⟩
      have HD4 := Lib.hid (HDa.out.step b4)
      clear b4 hcv HDa
      go_wp2_with fail
      refine (write_L HD4.out (n : Int) X).mono ?_
      rw [HXd.out, ST.out.1]
      rintro e w5 ⟨rfl, h5⟩
      have HD5 := Lib.hid h5
      clear h5
      go_wp2_with fail
      go_roundw
      case rel => exact ⟨n + 1, _, by omega, by go_num, HD5, Lib.hid ST.out.2⟩
      case measure => simp [intOf]; omega
    · obtain rfl : n = 8 := by omega
      have SY := Lib.hid (invB_zero A B st HI.out)
      go_wp2_with fail
      refine (sync_L HD.out).mono ?_
      rw [SY.out.1]
      rintro e w6 ⟨rfl, h6⟩
      have HD6 := Lib.hid h6
      have HJ := Lib.hid SY.out.2
      clear h6 SY HD HI
      generalize st.sync.1 = st1 at *
      go_wp2_with fail
      -- the second writes
      go_loopw [12] (fun i wr => ∃ (n : Nat) (st2 : DkS), n ≤ 16 ∧ i = .int .i64 (n : Int) ∧ Hid (DkL w wr d st2) ∧ Hid (InvB A B st2 n)) (fun i _ => 17 - (intOf i).toNat)
      case atStart => exact ⟨0, _, by omega, rfl, HD6, HJ⟩
      case round =>
        obtain ⟨n, st2, hn, rfl, HD, HI⟩ := hrel
        by_cases hlt : n < 16
        · have hli : (n : Int) < 16 := by omega
          obtain ⟨q, hq⟩ : ∃ q, q = 7 - n % 8 := ⟨_, rfl⟩
          have hqi : 7 - (n : Int) % 8 = (q : Int) := by omega
          have ST := Lib.hid (invB_step A B HBl.out st2 n q hlt hq HI.out)
          obtain ⟨C, HC⟩ : ∃ C, Hid (Str [UInt8.ofNat (n + 9)] = C) := ⟨_, Lib.hid rfl⟩
          obtain ⟨U, HU⟩ : ∃ U, b ++ C = U := ⟨_, rfl⟩
          have HU2 : Hid (b ++ Str [UInt8.ofNat (n + 9)] = U) := Lib.hid (by rw [HC.out]; exact HU)
          obtain ⟨X, HX⟩ : ∃ X, Hid (Str (B n) = X) := ⟨_, Lib.hid rfl⟩
          have HXd : Hid (X.data.toList = B n) := Lib.hid (by rw [← HX.out, Str_list])
          have HX2 : Hid (Str (tx b (n + 9)) = X) := Lib.hid (by rw [HB.out]; exact HX.out)
          have hCz : C.size = 1 := by rw [← HC.out, Str_size]; rfl
          have hcv := one_num (n + 9) (by omega) wr
          have e9 : ((n + 9 : Nat) : Int) = (n : Int) + 9 := by omega
          rw [HC.out, e9] at hcv
          have HDa := Lib.hid (HD.out.step ((Below.refl wr.heap.size wr).alloc (Nat.le_refl _) (.cells #[.int .u8 ((n : Int) + 9)] 5)))
          clear e9 hq
          go_wp2_with fail
          refine (fill_num b (n + 9) _ zb (tx b) (Lib.hid fun _ => rfl) U HU2 X HX2).mono ?_
          rintro e w4 ⟨rfl, b4⟩
          have HD4 := Lib.hid (HDa.out.step b4)
          clear b4 hcv HDa
          go_wp2_with fail
          refine (write_L HD4.out (q : Int) X).mono ?_
          rw [HXd.out, ST.out.1]
          rintro e w5 ⟨rfl, h5⟩
          have HD5 := Lib.hid h5
          clear h5
          go_wp2_with fail
          go_roundw
          case rel => exact ⟨n + 1, _, by omega, by go_num, HD5, Lib.hid ST.out.2⟩
          case measure => simp [intOf]; omega
        · obtain rfl : n = 16 := by omega
          have CG := Lib.hid fun j hj => crash_get A B st2 (zs.take klen) HI.out j hj
          have hL8 := (CG.out 0 (by omega)).1
          go_wp2_with fail
          refine (loose_L HD.out).mono ?_
          rintro e w6 ⟨lv, rfl, ho, b6⟩
          rw [List.length_map, hL8] at ho
          obtain ⟨lk, lc, rfl⟩ : ∃ lk lc, lv = .slice lk 8 lc := by
            rcases ho.2 with ⟨_, h2⟩ | ⟨g, cap, cur, h1, _⟩
            · omega
            · exact ⟨_, _, h1⟩
          have HD6 := Lib.hid (HD.out.step b6)
          clear ho b6 HD HI hL8
          go_wp2_with fail
          refine (crash_L HD6.out ka klen kcap zs HK.out).mono ?_
          rintro e w7 ⟨rfl, h7⟩
          have HD7 := Lib.hid h7
          clear h7 HD6
          obtain ⟨stC, hC⟩ : ∃ stC, st2.crash (zs.take klen) = stC := ⟨_, rfl⟩
          rw [hC] at HD7 CG
          have CU := (CG.out 0 (by omega)).2.1
          have CL := (CG.out 0 (by omega)).2.2.1
          have HCU := Lib.hid CU
          have HCL := Lib.hid CL
          clear hC CU CL
          go_wp2_with fail
          go_loopw [14, 15, 16, 17] (fun i _ _ _ wr => ∃ n : Nat, n ≤ 8 ∧ i = .int .i64 (n : Int) ∧ Hid (DkL w wr d stC)) (fun i _ _ _ _ => 9 - (intOf i).toNat)
          case atStart => exact ⟨0, by omega, rfl, HD7⟩
          case round =>
            obtain ⟨n, hn, rfl, HD⟩ := hrel
            by_cases hlt : n < 8
            · have hli : (n : Int) < 8 := by omega
              obtain ⟨q, hq⟩ : ∃ q, 7 - n = q := ⟨_, rfl⟩
              have hqi : 7 - (n : Int) = (q : Int) := by omega
              have RD := (CG.out n hlt).2.2.2
              rw [hq] at RD
              obtain ⟨C, HC⟩ : ∃ C, Hid (Str [UInt8.ofNat q] = C) := ⟨_, Lib.hid rfl⟩
              obtain ⟨U, HU⟩ : ∃ U, a ++ C = U := ⟨_, rfl⟩
              have HU2 : Hid (a ++ Str [UInt8.ofNat q] = U) := Lib.hid (by rw [HC.out]; exact HU)
              obtain ⟨X, HX⟩ : ∃ X, Hid (Str (A q) = X) := ⟨_, Lib.hid rfl⟩
              have hCz : C.size = 1 := by rw [← HC.out, Str_size]; rfl
              have LT := lose_take zs klen n (ints_len HK.out)
              have hq8 : q < 256 := by omega
              clear hq
              by_cases hkn : klen ≤ n
              · have hkni : ¬ (n : Int) < (klen : Int) := by omega
                rw [if_pos (LT.1 hkn)] at RD
                have HR : Hid (Str (A q, (0 : Int)).1 = X) := Lib.hid HX.out
                have HRD := Lib.hid RD
                clear RD LT
                have hcv := one_num q hq8 wr
                rw [HC.out] at hcv
                have HDa := Lib.hid (HD.out.step ((Below.refl wr.heap.size wr).alloc (Nat.le_refl _) (.cells #[.int .u8 (q : Int)] 5)))
                go_wp2_with fail
                refine (read_L HD.out (q : Int)).mono ?_
                rw [HRD.out, HR.out]
                rintro e w7 ⟨rfl, rfl⟩
                go_wp2_with fail
                refine (fill_num a q _ za A HA U HU2 X HX).mono ?_
                rintro e w8 ⟨rfl, b8⟩
                have HD9 := Lib.hid (HDa.out.step b8)
                clear hcv HDa
                clear b8
                go_wp2_with fail
                go_roundw
                case rel => exact ⟨n + 1, by omega, by go_num, HD9⟩
                case measure => simp [intOf]; omega
              · have hkni : (n : Int) < (klen : Int) := by omega
                obtain ⟨x, rfl, hat⟩ := keep_cell HK.out HD.out.below n (by omega)
                obtain ⟨kv, hkv⟩ : ∃ kv, zs.getD n 0 = kv := ⟨_, rfl⟩
                have LT2 := LT.2 (by omega)
                rw [hkv] at hat LT2
                have hkb : (klen : Int) ≤ 9223372036854775807 := by have := hkc.2; unfold maxLen at this; omega
                clear LT
                rcases tmod_two kv with ⟨ht, hodd⟩ | ⟨ht, hodd⟩ | ⟨ht, hodd⟩
                · rw [hodd, Bool.not_false] at LT2
                  rw [if_pos LT2] at RD
                  have HR : Hid (Str (A q, (0 : Int)).1 = X) := Lib.hid HX.out
                  have HRD := Lib.hid RD
                  clear RD LT2 hodd
                  have hcv := one_num q hq8 wr
                  rw [HC.out] at hcv
                  have HDa := Lib.hid (HD.out.step ((Below.refl wr.heap.size wr).alloc (Nat.le_refl _) (.cells #[.int .u8 (q : Int)] 5)))
                  go_wp2_with fail
                  refine (read_L HD.out (q : Int)).mono ?_
                  rw [HRD.out, HR.out]
                  rintro e w7 ⟨rfl, rfl⟩
                  go_wp2_with fail
                  refine (fill_num a q _ za A HA U HU2 X HX).mono ?_
                  rintro e w8 ⟨rfl, b8⟩
                  have HD9 := Lib.hid (HDa.out.step b8)
                  clear hcv HDa
                  have hat2 : w8.cell? (x.add n) = some (.int .i64 kv) := by
                    obtain ⟨x2, h1, h2⟩ := keep_cell HK.out HD9.out.below n (by omega)
                    injection h1 with h1
                    rw [← h1] at h2
                    rw [h2, hkv]
                  clear b8 hat
                  go_wp2_with fail
                  go_roundw
                  case rel => exact ⟨n + 1, by omega, by go_num, HD9⟩
                  case measure => simp [intOf]; omega
                · rw [hodd, Bool.not_true] at LT2
                  rw [if_neg (by rw [LT2]; simp)] at RD
                  obtain ⟨X2, HX2⟩ : ∃ X2, Hid (Str (B (n + 8)) = X2) := ⟨_, Lib.hid rfl⟩
                  have HR : Hid (Str (B (n + 8), (0 : Int)).1 = X2) := Lib.hid HX2.out
                  have HX3 : Hid (Str (tx b (n + 17)) = X2) := Lib.hid (by rw [← HX2.out, ← HB.out])
                  obtain ⟨C2, HC2⟩ : ∃ C, Hid (Str [UInt8.ofNat (n + 17)] = C) := ⟨_, Lib.hid rfl⟩
                  obtain ⟨U2, HU3⟩ : ∃ U, b ++ C2 = U := ⟨_, rfl⟩
                  have HU4 : Hid (b ++ Str [UInt8.ofNat (n + 17)] = U2) := Lib.hid (by rw [HC2.out]; exact HU3)
                  have hC2z : C2.size = 1 := by rw [← HC2.out, Str_size]; rfl
                  have HRD := Lib.hid RD
                  clear RD LT2 hodd
                  have hcv := one_num q hq8 wr
                  rw [HC.out] at hcv
                  have HDa := Lib.hid (HD.out.step ((Below.refl wr.heap.size wr).alloc (Nat.le_refl _) (.cells #[.int .u8 (q : Int)] 5)))
                  go_wp2_with fail
                  refine (read_L HD.out (q : Int)).mono ?_
                  rw [HRD.out, HR.out]
                  rintro e w7 ⟨rfl, rfl⟩
                  go_wp2_with fail
                  refine (fill_num a q _ za A HA U HU2 X HX).mono ?_
                  rintro e w8 ⟨rfl, b8⟩
                  have HD9 := Lib.hid (HDa.out.step b8)
                  clear hcv HDa
                  have hat2 : w8.cell? (x.add n) = some (.int .i64 kv) := by
                    obtain ⟨x2, h1, h2⟩ := keep_cell HK.out HD9.out.below n (by omega)
                    injection h1 with h1
                    rw [← h1] at h2
                    rw [h2, hkv]
                  clear b8 hat
                  have hcv := one_num (n + 17) (by omega) w8
                  have e9 : ((n + 17 : Nat) : Int) = (n : Int) + 17 := by omega
                  rw [HC2.out, e9] at hcv
                  have HDb := Lib.hid (HD9.out.step ((Below.refl w8.heap.size w8).alloc (Nat.le_refl _) (.cells #[.int .u8 ((n : Int) + 17)] 5)))
                  clear e9
                  go_wp2_with fail
                  refine (fill_num b (n + 17) _ zb (tx b) (Lib.hid fun _ => rfl) U2 HU4 X2 HX3).mono ?_
                  rintro e w9 ⟨rfl, b9⟩
                  have HD10 := Lib.hid (HDb.out.step b9)
                  clear b9 hcv HDb
                  go_wp2_with fail
                  go_roundw
                  case rel => exact ⟨n + 1, by omega, by go_num, HD10⟩
                  case measure => simp [intOf]; omega
                · rw [hodd, Bool.not_true] at LT2
                  rw [if_neg (by rw [LT2]; simp)] at RD
                  obtain ⟨X2, HX2⟩ : ∃ X2, Hid (Str (B (n + 8)) = X2) := ⟨_, Lib.hid rfl⟩
                  have HR : Hid (Str (B (n + 8), (0 : Int)).1 = X2) := Lib.hid HX2.out
                  have HX3 : Hid (Str (tx b (n + 17)) = X2) := Lib.hid (by rw [← HX2.out, ← HB.out])
                  obtain ⟨C2, HC2⟩ : ∃ C, Hid (Str [UInt8.ofNat (n + 17)] = C) := ⟨_, Lib.hid rfl⟩
                  obtain ⟨U2, HU3⟩ : ∃ U, b ++ C2 = U := ⟨_, rfl⟩
                  have HU4 : Hid (b ++ Str [UInt8.ofNat (n + 17)] = U2) := Lib.hid (by rw [HC2.out]; exact HU3)
                  have hC2z : C2.size = 1 := by rw [← HC2.out, Str_size]; rfl
                  have HRD := Lib.hid RD
                  clear RD LT2 hodd
                  have hcv := one_num q hq8 wr
                  rw [HC.out] at hcv
                  have HDa := Lib.hid (HD.out.step ((Below.refl wr.heap.size wr).alloc (Nat.le_refl _) (.cells #[.int .u8 (q : Int)] 5)))
                  go_wp2_with fail
                  refine (read_L HD.out (q : Int)).mono ?_
                  rw [HRD.out, HR.out]
                  rintro e w7 ⟨rfl, rfl⟩
                  go_wp2_with fail
                  refine (fill_num a q _ za A HA U HU2 X HX).mono ?_
                  rintro e w8 ⟨rfl, b8⟩
                  have HD9 := Lib.hid (HDa.out.step b8)
                  clear hcv HDa
                  have hat2 : w8.cell? (x.add n) = some (.int .i64 kv) := by
                    obtain ⟨x2, h1, h2⟩ := keep_cell HK.out HD9.out.below n (by omega)
                    injection h1 with h1
                    rw [← h1] at h2
                    rw [h2, hkv]
                  clear b8 hat
                  have hcv := one_num (n + 17) (by omega) w8
                  have e9 : ((n + 17 : Nat) : Int) = (n : Int) + 17 := by omega
                  rw [HC2.out, e9] at hcv
                  have HDb := Lib.hid (HD9.out.step ((Below.refl w8.heap.size w8).alloc (Nat.le_refl _) (.cells #[.int .u8 ((n : Int) + 17)] 5)))
                  clear e9
                  go_wp2_with fail
                  refine (fill_num b (n + 17) _ zb (tx b) (Lib.hid fun _ => rfl) U2 HU4 X2 HX3).mono ?_
                  rintro e w9 ⟨rfl, b9⟩
                  have HD10 := Lib.hid (HDb.out.step b9)
                  clear b9 hcv HDb
                  go_wp2_with fail
                  go_roundw
                  case rel => exact ⟨n + 1, by omega, by go_num, HD10⟩
                  case measure => simp [intOf]; omega
            · obtain rfl : n = 8 := by omega
              go_wp2_with fail
              refine (loose_L HD.out).mono ?_
              rintro e w9 ⟨lv, rfl, ho, b9⟩
              rw [HCL.out] at ho
              have ho2 : lv = .slice none 0 0 ∨ ∃ lk lc, lv = .slice lk 0 lc := by
                rcases ho.2 with ⟨h1, _⟩ | ⟨g, cap, cur, h1, _⟩
                · exact .inl h1
                · exact .inr ⟨_, _, h1⟩
              obtain ⟨lk2, lc2, rfl⟩ : ∃ lk lc, lv = .slice lk 0 lc := by
                rcases ho2 with h1 | h1
                · exact ⟨none, 0, h1⟩
                · exact h1
              have HD9 := Lib.hid (HD.out.step b9)
              clear ho ho2 b9
              go_wp2_with fail
              refine (up_L HD9.out).mono ?_
              rw [HCU.out]
              rintro e w10 ⟨rfl, rfl⟩
              have HF := Lib.hid HD9.out.below
              go_wp2_with fail
              go_ret
              exact ⟨rfl, HF.out⟩
end Go.Proofs.Yteaiiiikehimgaa
