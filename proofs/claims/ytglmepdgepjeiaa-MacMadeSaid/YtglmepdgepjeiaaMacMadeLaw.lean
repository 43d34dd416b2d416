import Derived.Test.YtglmepdgepjeiaaEx04
import Derived.Test.YtglmepdgepjeiaaZeros
import Derived.Outline
namespace Go.Proofs.Ytglmepdgepjeiaa
open Go.RowKit
set_option linter.unusedVariables false

/-- The first n bytes of a key of 64 bytes, turned; zeros behind. -/
def madeTo (key : List UInt8) (m : UInt8) (n : Nat) : List UInt8 := ((pad64 key).take n).map (· ^^^ m) ++ List.replicate (64 - n) 0
theorem madeTo_length (key : List UInt8) (m : UInt8) (n : Nat) (hk : key.length ≤ 64) (h : n ≤ 64) : (madeTo key m n).length = 64 := by
  unfold madeTo; have := pad64_length key hk; simp; omega
theorem madeTo_zero (key : List UInt8) (m : UInt8) : madeTo key m 0 = List.replicate 64 0 := by simp [madeTo]
theorem madeTo_all (key : List UInt8) (m : UInt8) (hk : key.length ≤ 64) : madeTo key m 64 = (pad64 key).map (· ^^^ m) := by
  unfold madeTo; rw [List.take_of_length_le (Nat.le_of_eq (pad64_length key hk))]; simp
theorem pad64_get (key : List UInt8) (n : Nat) (h : n < 64) (hk : key.length ≤ 64) : (pad64 key)[n]? = some (key.getD n 0) := by
  unfold pad64
  rw [List.getD_eq_getElem?_getD]
  rcases Nat.lt_or_ge n key.length with hn | hn
  · rw [List.getElem?_append_left hn, List.getElem?_eq_getElem hn]; rfl
  · rw [List.getElem?_append_right hn, List.getElem?_eq_none hn, List.getElem?_replicate, if_pos (by omega)]; rfl
theorem madeTo_step (key : List UInt8) (m : UInt8) (n : Nat) (hk : key.length ≤ 64) (h : n < 64) : (madeTo key m n).set n (key.getD n 0 ^^^ m) = madeTo key m (n + 1) := by
  have hl := pad64_length key hk
  have hg := pad64_get key n h hk
  unfold madeTo
  rw [List.set_append_right _ _ (by simp; omega)]
  have e : n - (((pad64 key).take n).map (· ^^^ m)).length = 0 := by simp; omega
  rw [e, show 64 - n = (64 - (n + 1)) + 1 by omega, List.replicate_succ, List.set_cons_zero, List.take_add_one, hg]
  simp
/-- What the walk holds of the two rows. -/
structure InOut (w w0 : World) (gi go : Nat) (l m : List UInt8) : Prop where
  i : Buf w gi l
  o : Buf w go m
  below : Below w0.heap.size w0 w
  gi0 : w0.heap.size ≤ gi
  go0 : w0.heap.size ≤ go
  ne : gi ≠ go
theorem InOut.set {w w0 : World} {gi go : Nat} {l m : List UInt8} (h : InOut w w0 gi go l m) (n : Nat) (hn : n < l.length) (hm : n < m.length) (b c : UInt8) :
    InOut ((w.setCell ⟨gi, n, none⟩ (.int .u8 (b.toNat : Int))).setCell ⟨go, n, none⟩ (.int .u8 (c.toNat : Int))) w0 gi go (l.set n b) (m.set n c) :=
  ⟨(h.i.set n hn b).other _ _ h.ne, (h.o.other _ _ (Ne.symm h.ne)).set n hm c, (h.below.setCell h.gi0 _).setCell h.go0 _, h.gi0, h.go0, h.ne⟩
theorem keep9 {wr a b : World} {gi go : Nat} {ki ko : ByteArray}
    (h : Below wr.heap.size wr a ∧ (convert 27 9 (.slice (some ⟨gi, 0, none⟩) 64 64)).run Try.prog a = .ok (.string ki) a ∧ (convert 27 9 (.slice (some ⟨go, 0, none⟩) 64 64)).run Try.prog a = .ok (.string ko) a)
    (k : Below a.heap.size a b)
    (CI : ∀ w', Below wr.heap.size wr w' → (convert 27 9 (.slice (some ⟨gi, 0, none⟩) 64 64)).run Try.prog w' = .ok (.string ki) w')
    (CO : ∀ w', Below wr.heap.size wr w' → (convert 27 9 (.slice (some ⟨go, 0, none⟩) 64 64)).run Try.prog w' = .ok (.string ko) w') :
    Below wr.heap.size wr b ∧ (convert 27 9 (.slice (some ⟨gi, 0, none⟩) 64 64)).run Try.prog b = .ok (.string ki) b ∧ (convert 27 9 (.slice (some ⟨go, 0, none⟩) 64 64)).run Try.prog b = .ok (.string ko) b := by
  have h9 := chain h.1 k
  exact ⟨h9, CI _ h9, CO _ h9⟩
theorem held1 {wr a : World} {gi go : Nat} {ki ko : ByteArray}
    (h : Below wr.heap.size wr a ∧ (convert 27 9 (.slice (some ⟨gi, 0, none⟩) 64 64)).run Try.prog a = .ok (.string ki) a ∧ (convert 27 9 (.slice (some ⟨go, 0, none⟩) 64 64)).run Try.prog a = .ok (.string ko) a) : Below wr.heap.size wr a := h.1
set_option maxHeartbeats 3200000 in
theorem macMade_cc (k s c d y ki ko si : ByteArray) (w : World) (zk : k.size ≤ 140737488351232) (zs : s.size ≤ 140737488351232) (hc : Hid (k.extract 0 64 = c)) (hcs : (c.size : Int) ≤ 64) (hkk : 64 < (k.size : Int)) (hd : Hid (s.extract 0 200 = d)) (hds : (d.size : Int) ≤ 200) (hss : 200 < (s.size : Int))
    (HI : Hid (turnB c 0x36 = ki)) (HO : Hid (turnB c 0x5c = ko)) (HS : Hid (sumB (ki ++ d) = si)) (HY : Hid (sumB (ko ++ si) = y)) (HM : Hid (macB c d = y)) (hki : ki.size = 64) (hko : ko.size = 64) (hsi : si.size = 32) :
    Calls Try.prog 6 #[.string k, .string s] w fun e w' => e = .returned (.bool true) ∧ Below w.heap.size w w' := by
  go_enter Try.func6, Try.ntmps6
  try simp only [List.append_eq, List.cons_append, List.nil_append]
  go_wp2_with fail
  refine (examples_any _).mono ?_
  rintro e w1 ⟨rfl, bb⟩
  obtain ⟨w2, hmk, hbi, bz, _⟩ := Buf.zeros w1 64 (by omega)
  obtain ⟨w3, hmk2, hbo, bz2, _⟩ := Buf.zeros w2 64 (by omega)
  have hlt2 : w1.heap.size < w2.heap.size := hbi.1
  have HIO : Hid (InOut w3 w w1.heap.size w2.heap.size (madeTo c.data.toList 0x36 0) (madeTo c.data.toList 0x5c 0)) := Lib.hid (by
    rw [madeTo_zero, madeTo_zero]
    exact ⟨hbi.below bz2, hbo, chain (chain bb bz) bz2, bb.size, Nat.le_trans bb.size (Nat.le_of_lt hlt2), by omega⟩)
  clear bz bz2 hbi hbo bb
  have hmk' : (Instr.makeSlice 27 (.int .i64 64) (.int .i64 64)).run Try.prog w1 = .ok (.slice (some ⟨w1.heap.size, 0, none⟩) 64 64) w2 := hmk
  have hmk2' : (Instr.makeSlice 27 (.int .i64 64) (.int .i64 64)).run Try.prog w2 = .ok (.slice (some ⟨w2.heap.size, 0, none⟩) 64 64) w3 := hmk2
  clear hmk hmk2
  go_wp2_with fail
  rw [hc.out]
  rw [hd.out]
  clear hmk' hmk2'
  generalize w1.heap.size = gi at *
  generalize w2.heap.size = go at *
  have hkl : Hid (c.data.toList.length ≤ 64) := Lib.hid (by simp; omega)
  go_loopw [8] (fun i wr => ∃ n : Nat, n ≤ 64 ∧ i = .int .i64 (n : Int) ∧ Hid (InOut wr w gi go (madeTo c.data.toList 0x36 n) (madeTo c.data.toList 0x5c n))) (fun i _ => 65 - (intOf i).toNat)
  case atStart => exact ⟨0, by omega, rfl, HIO⟩
  case round =>
    obtain ⟨n, hn, rfl, HR⟩ := hrel
    by_cases hlt : n < 64
    · have hli : (n : Int) < 64 := by omega
      have li := madeTo_length c.data.toList 0x36 n hkl.out hn
      have lo := madeTo_length c.data.toList 0x5c n hkl.out hn
      have FIN := Lib.hid (HR.out.set n (by rw [li]; exact hlt) (by rw [lo]; exact hlt) (c.data.toList.getD n 0 ^^^ 0x36) (c.data.toList.getD n 0 ^^^ 0x5c))
      rw [madeTo_step _ _ n hkl.out hlt, madeTo_step _ _ n hkl.out hlt] at FIN
      obtain ⟨ci, c0⟩ : ∃ v, wr.cell? ⟨gi, n, none⟩ = some v := ⟨_, HR.out.i.cell n (by rw [li]; exact hlt)⟩
      have f0 := HR.out.i.free n (by rw [li]; exact hlt)
      have x1 : bits .xor .u8 ((c.data.toList.getD n 0).toNat : Int) 54 = (((c.data.toList.getD n 0).toNat ^^^ 54 : Nat) : Int) := u8_xor_nat (c.data.toList.getD n 0).toNat 54 (UInt8.toNat_lt _) (by decide)
      have x2 : bits .xor .u8 ((c.data.toList.getD n 0).toNat : Int) 92 = (((c.data.toList.getD n 0).toNat ^^^ 92 : Nat) : Int) := u8_xor_nat (c.data.toList.getD n 0).toNat 92 (UInt8.toNat_lt _) (by decide)
      have y1 : (c.data.toList.getD n 0 ^^^ 0x36).toNat = (c.data.toList.getD n 0).toNat ^^^ 54 := rfl
      have y2 : (c.data.toList.getD n 0 ^^^ 0x5c).toNat = (c.data.toList.getD n 0).toNat ^^^ 92 := rfl
      rw [y1, y2] at FIN
      have hne := HR.out.ne
      have hgo := HR.out.o.1
      obtain ⟨w4, hw4⟩ : ∃ w4, wr.setCell ⟨gi, n, none⟩ (.int .u8 (((c.data.toList.getD n 0).toNat ^^^ 54 : Nat) : Int)) = w4 := ⟨_, rfl⟩
      obtain ⟨co, c1⟩ : ∃ v, w4.cell? ⟨go, n, none⟩ = some v := ⟨_, by rw [← hw4]; exact (HR.out.o.other _ _ (Ne.symm hne)).cell n (by rw [lo]; exact hlt)⟩
      have f1 : w4.frozen? ⟨go, n, none⟩ = false := by rw [← hw4]; exact (HR.out.o.other _ _ (Ne.symm hne)).free n (by rw [lo]; exact hlt)
      rw [hw4] at FIN
      clear y1 y2 li lo HR hne hgo
      by_cases hin : n < c.size
      · have hini : (n : Int) < (c.size : Int) := by omega
        have hget : c[n].toNat = (c.data.toList.getD n 0).toNat := by
          rw [List.getD_eq_getElem?_getD, List.getElem?_eq_getElem (by simpa using hin)]
          simp [ByteArray.getElem_eq_getElem_data]
        generalize (c.data.toList.getD n 0).toNat = x at *
        generalize x ^^^ 54 = p at *
        generalize x ^^^ 92 = q at *
        go_wp2_with fail
        go_roundw
        case rel => exact ⟨n + 1, by omega, by go_num, FIN⟩
        case measure => simp [intOf]; omega
      · have hini : ¬ (n : Int) < (c.size : Int) := by omega
        have hget : (c.data.toList.getD n 0).toNat = 0 := by
          rw [List.getD_eq_getElem?_getD, List.getElem?_eq_none (by simp; omega)]
          rfl
        rw [hget] at x1 x2 hw4 FIN
        have z1 : (0 : Nat) ^^^ 54 = 54 := by decide
        have z2 : (0 : Nat) ^^^ 92 = 92 := by decide
        rw [z1] at x1 hw4
        rw [z2] at x2 FIN
        have x1' : bits .xor .u8 0 54 = 54 := x1
        have x2' : bits .xor .u8 0 92 = 92 := x2
        have hw4' : wr.setCell ⟨gi, n, none⟩ (.int .u8 54) = w4 := hw4
        have FIN' : Hid (InOut (w4.setCell ⟨go, n, none⟩ (.int .u8 92)) w gi go (madeTo c.data.toList 0x36 (n + 1)) (madeTo c.data.toList 0x5c (n + 1))) := FIN
        clear x1 x2 z1 z2 hget hw4 FIN
        go_wp2_with fail
        go_roundw
        case rel => exact ⟨n + 1, by omega, by go_num, FIN'⟩
        case measure => simp [intOf]; omega
    · obtain rfl : n = 64 := by omega
      have hli : ¬ (((64 : Nat) : Int) < 64) := by omega
      have hci : ∀ w', Below wr.heap.size wr w' → (convert 27 9 (.slice (some ⟨gi, 0, none⟩) 64 64)).run Try.prog w' = .ok (.string ki) w' := fun w' h => by
        have := (HR.out.i.below h).conv 64
        rw [madeTo_all _ _ hkl.out] at this
        rw [List.length_map, pad64_length _ hkl.out] at this
        rw [this, ← HI.out]
        rfl
      have hco : ∀ w', Below wr.heap.size wr w' → (convert 27 9 (.slice (some ⟨go, 0, none⟩) 64 64)).run Try.prog w' = .ok (.string ko) w' := fun w' h => by
        have := (HR.out.o.below h).conv 64
        rw [madeTo_all _ _ hkl.out] at this
        rw [List.length_map, pad64_length _ hkl.out] at this
        rw [this, ← HO.out]
        rfl
      have hbw := HR.out.below
      have CI := Lib.hid hci
      have CO := Lib.hid hco
      have B0 : Below wr.heap.size wr wr := Below.refl _ _
      have C1 := hci wr B0
      have C2 := hco wr B0
      clear hci hco HR hlt
      have s1 : 64 + (d.size : Int) ≤ 9223372036854775807 := by omega
      go_wp2_with fail
      have s2 : (9223372036854775807 < 64 + d.size) = False := by rw [eq_iff_iff, iff_false]; omega
      go_region_held3 (fun w' => Below wr.heap.size wr w' ∧ (convert 27 9 (.slice (some ⟨gi, 0, none⟩) 64 64)).run Try.prog w' = .ok (.string ki) w' ∧ (convert 27 9 (.slice (some ⟨go, 0, none⟩) 64 64)).run Try.prog w' = .ok (.string ko) w') (first | exact ⟨B0.drew, CI.out _ B0.drew, CO.out _ B0.drew⟩ | exact keep9 ⟨B0.drew, CI.out _ B0.drew, CO.out _ B0.drew⟩ b9 CI.out CO.out | exact keep9 (by assumption) b9 CI.out CO.out) ((first | (go_at_call 8; refine (mac_is _ _ _ (by omega) (by omega)).mono ?_; rw [HM.out]; rintro e w9 ⟨rfl, b9⟩) | (go_at_call 13; refine (sum_is _ _ (by rw [ByteArray.size_append]; omega)).mono ?_; (first | rw [HS.out] | rw [HY.out]); rintro e w9 ⟨rfl, b9⟩)))
      all_goals
        have hfin := chain hbw (held1 (gi := gi) (go := go) (ki := ki) (ko := ko) (a := w9) (by assumption))
        go_wp2_with fail
        go_ret
        exact ⟨rfl, hfin⟩
set_option maxHeartbeats 3200000 in
theorem macMade_cs (k s c d y ki ko si : ByteArray) (w : World) (zk : k.size ≤ 140737488351232) (zs : s.size ≤ 140737488351232) (hc : Hid (k.extract 0 64 = c)) (hcs : (c.size : Int) ≤ 64) (hkk : 64 < (k.size : Int)) (hss : (s.size : Int) ≤ 200)
    (HI : Hid (turnB c 0x36 = ki)) (HO : Hid (turnB c 0x5c = ko)) (HS : Hid (sumB (ki ++ s) = si)) (HY : Hid (sumB (ko ++ si) = y)) (HM : Hid (macB c s = y)) (hki : ki.size = 64) (hko : ko.size = 64) (hsi : si.size = 32) :
    Calls Try.prog 6 #[.string k, .string s] w fun e w' => e = .returned (.bool true) ∧ Below w.heap.size w w' := by
  go_enter Try.func6, Try.ntmps6
  try simp only [List.append_eq, List.cons_append, List.nil_append]
  go_wp2_with fail
  refine (examples_any _).mono ?_
  rintro e w1 ⟨rfl, bb⟩
  obtain ⟨w2, hmk, hbi, bz, _⟩ := Buf.zeros w1 64 (by omega)
  obtain ⟨w3, hmk2, hbo, bz2, _⟩ := Buf.zeros w2 64 (by omega)
  have hlt2 : w1.heap.size < w2.heap.size := hbi.1
  have HIO : Hid (InOut w3 w w1.heap.size w2.heap.size (madeTo c.data.toList 0x36 0) (madeTo c.data.toList 0x5c 0)) := Lib.hid (by
    rw [madeTo_zero, madeTo_zero]
    exact ⟨hbi.below bz2, hbo, chain (chain bb bz) bz2, bb.size, Nat.le_trans bb.size (Nat.le_of_lt hlt2), by omega⟩)
  clear bz bz2 hbi hbo bb
  have hmk' : (Instr.makeSlice 27 (.int .i64 64) (.int .i64 64)).run Try.prog w1 = .ok (.slice (some ⟨w1.heap.size, 0, none⟩) 64 64) w2 := hmk
  have hmk2' : (Instr.makeSlice 27 (.int .i64 64) (.int .i64 64)).run Try.prog w2 = .ok (.slice (some ⟨w2.heap.size, 0, none⟩) 64 64) w3 := hmk2
  clear hmk hmk2
  go_wp2_with fail
  rw [hc.out]
  clear hmk' hmk2'
  generalize w1.heap.size = gi at *
  generalize w2.heap.size = go at *
  have hkl : Hid (c.data.toList.length ≤ 64) := Lib.hid (by simp; omega)
  go_loopw [8] (fun i wr => ∃ n : Nat, n ≤ 64 ∧ i = .int .i64 (n : Int) ∧ Hid (InOut wr w gi go (madeTo c.data.toList 0x36 n) (madeTo c.data.toList 0x5c n))) (fun i _ => 65 - (intOf i).toNat)
  case atStart => exact ⟨0, by omega, rfl, HIO⟩
  case round =>
    obtain ⟨n, hn, rfl, HR⟩ := hrel
    by_cases hlt : n < 64
    · have hli : (n : Int) < 64 := by omega
      have li := madeTo_length c.data.toList 0x36 n hkl.out hn
      have lo := madeTo_length c.data.toList 0x5c n hkl.out hn
      have FIN := Lib.hid (HR.out.set n (by rw [li]; exact hlt) (by rw [lo]; exact hlt) (c.data.toList.getD n 0 ^^^ 0x36) (c.data.toList.getD n 0 ^^^ 0x5c))
      rw [madeTo_step _ _ n hkl.out hlt, madeTo_step _ _ n hkl.out hlt] at FIN
      obtain ⟨ci, c0⟩ : ∃ v, wr.cell? ⟨gi, n, none⟩ = some v := ⟨_, HR.out.i.cell n (by rw [li]; exact hlt)⟩
      have f0 := HR.out.i.free n (by rw [li]; exact hlt)
      have x1 : bits .xor .u8 ((c.data.toList.getD n 0).toNat : Int) 54 = (((c.data.toList.getD n 0).toNat ^^^ 54 : Nat) : Int) := u8_xor_nat (c.data.toList.getD n 0).toNat 54 (UInt8.toNat_lt _) (by decide)
      have x2 : bits .xor .u8 ((c.data.toList.getD n 0).toNat : Int) 92 = (((c.data.toList.getD n 0).toNat ^^^ 92 : Nat) : Int) := u8_xor_nat (c.data.toList.getD n 0).toNat 92 (UInt8.toNat_lt _) (by decide)
      have y1 : (c.data.toList.getD n 0 ^^^ 0x36).toNat = (c.data.toList.getD n 0).toNat ^^^ 54 := rfl
      have y2 : (c.data.toList.getD n 0 ^^^ 0x5c).toNat = (c.data.toList.getD n 0).toNat ^^^ 92 := rfl
      rw [y1, y2] at FIN
      have hne := HR.out.ne
      have hgo := HR.out.o.1
      obtain ⟨w4, hw4⟩ : ∃ w4, wr.setCell ⟨gi, n, none⟩ (.int .u8 (((c.data.toList.getD n 0).toNat ^^^ 54 : Nat) : Int)) = w4 := ⟨_, rfl⟩
      obtain ⟨co, c1⟩ : ∃ v, w4.cell? ⟨go, n, none⟩ = some v := ⟨_, by rw [← hw4]; exact (HR.out.o.other _ _ (Ne.symm hne)).cell n (by rw [lo]; exact hlt)⟩
      have f1 : w4.frozen? ⟨go, n, none⟩ = false := by rw [← hw4]; exact (HR.out.o.other _ _ (Ne.symm hne)).free n (by rw [lo]; exact hlt)
      rw [hw4] at FIN
      clear y1 y2 li lo HR hne hgo
      by_cases hin : n < c.size
      · have hini : (n : Int) < (c.size : Int) := by omega
        have hget : c[n].toNat = (c.data.toList.getD n 0).toNat := by
          rw [List.getD_eq_getElem?_getD, List.getElem?_eq_getElem (by simpa using hin)]
          simp [ByteArray.getElem_eq_getElem_data]
        generalize (c.data.toList.getD n 0).toNat = x at *
        generalize x ^^^ 54 = p at *
        generalize x ^^^ 92 = q at *
        go_wp2_with fail
        go_roundw
        case rel => exact ⟨n + 1, by omega, by go_num, FIN⟩
        case measure => simp [intOf]; omega
      · have hini : ¬ (n : Int) < (c.size : Int) := by omega
        have hget : (c.data.toList.getD n 0).toNat = 0 := by
          rw [List.getD_eq_getElem?_getD, List.getElem?_eq_none (by simp; omega)]
          rfl
        rw [hget] at x1 x2 hw4 FIN
        have z1 : (0 : Nat) ^^^ 54 = 54 := by decide
        have z2 : (0 : Nat) ^^^ 92 = 92 := by decide
        rw [z1] at x1 hw4
        rw [z2] at x2 FIN
        have x1' : bits .xor .u8 0 54 = 54 := x1
        have x2' : bits .xor .u8 0 92 = 92 := x2
        have hw4' : wr.setCell ⟨gi, n, none⟩ (.int .u8 54) = w4 := hw4
        have FIN' : Hid (InOut (w4.setCell ⟨go, n, none⟩ (.int .u8 92)) w gi go (madeTo c.data.toList 0x36 (n + 1)) (madeTo c.data.toList 0x5c (n + 1))) := FIN
        clear x1 x2 z1 z2 hget hw4 FIN
        go_wp2_with fail
        go_roundw
        case rel => exact ⟨n + 1, by omega, by go_num, FIN'⟩
        case measure => simp [intOf]; omega
    · obtain rfl : n = 64 := by omega
      have hli : ¬ (((64 : Nat) : Int) < 64) := by omega
      have hci : ∀ w', Below wr.heap.size wr w' → (convert 27 9 (.slice (some ⟨gi, 0, none⟩) 64 64)).run Try.prog w' = .ok (.string ki) w' := fun w' h => by
        have := (HR.out.i.below h).conv 64
        rw [madeTo_all _ _ hkl.out] at this
        rw [List.length_map, pad64_length _ hkl.out] at this
        rw [this, ← HI.out]
        rfl
      have hco : ∀ w', Below wr.heap.size wr w' → (convert 27 9 (.slice (some ⟨go, 0, none⟩) 64 64)).run Try.prog w' = .ok (.string ko) w' := fun w' h => by
        have := (HR.out.o.below h).conv 64
        rw [madeTo_all _ _ hkl.out] at this
        rw [List.length_map, pad64_length _ hkl.out] at this
        rw [this, ← HO.out]
        rfl
      have hbw := HR.out.below
      have CI := Lib.hid hci
      have CO := Lib.hid hco
      have B0 : Below wr.heap.size wr wr := Below.refl _ _
      have C1 := hci wr B0
      have C2 := hco wr B0
      clear hci hco HR hlt
      have s1 : 64 + (s.size : Int) ≤ 9223372036854775807 := by omega
      go_wp2_with fail
      have s2 : (9223372036854775807 < 64 + s.size) = False := by rw [eq_iff_iff, iff_false]; omega
      go_region_held3 (fun w' => Below wr.heap.size wr w' ∧ (convert 27 9 (.slice (some ⟨gi, 0, none⟩) 64 64)).run Try.prog w' = .ok (.string ki) w' ∧ (convert 27 9 (.slice (some ⟨go, 0, none⟩) 64 64)).run Try.prog w' = .ok (.string ko) w') (first | exact ⟨B0.drew, CI.out _ B0.drew, CO.out _ B0.drew⟩ | exact keep9 ⟨B0.drew, CI.out _ B0.drew, CO.out _ B0.drew⟩ b9 CI.out CO.out | exact keep9 (by assumption) b9 CI.out CO.out) ((first | (go_at_call 8; refine (mac_is _ _ _ (by omega) (by omega)).mono ?_; rw [HM.out]; rintro e w9 ⟨rfl, b9⟩) | (go_at_call 13; refine (sum_is _ _ (by rw [ByteArray.size_append]; omega)).mono ?_; (first | rw [HS.out] | rw [HY.out]); rintro e w9 ⟨rfl, b9⟩)))
      all_goals
        have hfin := chain hbw (held1 (gi := gi) (go := go) (ki := ki) (ko := ko) (a := w9) (by assumption))
        go_wp2_with fail
        go_ret
        exact ⟨rfl, hfin⟩
set_option maxHeartbeats 3200000 in
theorem macMade_sc (k s c d y ki ko si : ByteArray) (w : World) (zk : k.size ≤ 140737488351232) (zs : s.size ≤ 140737488351232) (hkk : (k.size : Int) ≤ 64) (hd : Hid (s.extract 0 200 = d)) (hds : (d.size : Int) ≤ 200) (hss : 200 < (s.size : Int))
    (HI : Hid (turnB k 0x36 = ki)) (HO : Hid (turnB k 0x5c = ko)) (HS : Hid (sumB (ki ++ d) = si)) (HY : Hid (sumB (ko ++ si) = y)) (HM : Hid (macB k d = y)) (hki : ki.size = 64) (hko : ko.size = 64) (hsi : si.size = 32) :
    Calls Try.prog 6 #[.string k, .string s] w fun e w' => e = .returned (.bool true) ∧ Below w.heap.size w w' := by
  go_enter Try.func6, Try.ntmps6
  try simp only [List.append_eq, List.cons_append, List.nil_append]
  go_wp2_with fail
  refine (examples_any _).mono ?_
  rintro e w1 ⟨rfl, bb⟩
  obtain ⟨w2, hmk, hbi, bz, _⟩ := Buf.zeros w1 64 (by omega)
  obtain ⟨w3, hmk2, hbo, bz2, _⟩ := Buf.zeros w2 64 (by omega)
  have hlt2 : w1.heap.size < w2.heap.size := hbi.1
  have HIO : Hid (InOut w3 w w1.heap.size w2.heap.size (madeTo k.data.toList 0x36 0) (madeTo k.data.toList 0x5c 0)) := Lib.hid (by
    rw [madeTo_zero, madeTo_zero]
    exact ⟨hbi.below bz2, hbo, chain (chain bb bz) bz2, bb.size, Nat.le_trans bb.size (Nat.le_of_lt hlt2), by omega⟩)
  clear bz bz2 hbi hbo bb
  have hmk' : (Instr.makeSlice 27 (.int .i64 64) (.int .i64 64)).run Try.prog w1 = .ok (.slice (some ⟨w1.heap.size, 0, none⟩) 64 64) w2 := hmk
  have hmk2' : (Instr.makeSlice 27 (.int .i64 64) (.int .i64 64)).run Try.prog w2 = .ok (.slice (some ⟨w2.heap.size, 0, none⟩) 64 64) w3 := hmk2
  clear hmk hmk2
  go_wp2_with fail
  rw [hd.out]
  clear hmk' hmk2'
  generalize w1.heap.size = gi at *
  generalize w2.heap.size = go at *
  have hkl : Hid (k.data.toList.length ≤ 64) := Lib.hid (by simp; omega)
  go_loopw [8] (fun i wr => ∃ n : Nat, n ≤ 64 ∧ i = .int .i64 (n : Int) ∧ Hid (InOut wr w gi go (madeTo k.data.toList 0x36 n) (madeTo k.data.toList 0x5c n))) (fun i _ => 65 - (intOf i).toNat)
  case atStart => exact ⟨0, by omega, rfl, HIO⟩
  case round =>
    obtain ⟨n, hn, rfl, HR⟩ := hrel
    by_cases hlt : n < 64
    · have hli : (n : Int) < 64 := by omega
      have li := madeTo_length k.data.toList 0x36 n hkl.out hn
      have lo := madeTo_length k.data.toList 0x5c n hkl.out hn
      have FIN := Lib.hid (HR.out.set n (by rw [li]; exact hlt) (by rw [lo]; exact hlt) (k.data.toList.getD n 0 ^^^ 0x36) (k.data.toList.getD n 0 ^^^ 0x5c))
      rw [madeTo_step _ _ n hkl.out hlt, madeTo_step _ _ n hkl.out hlt] at FIN
      obtain ⟨ci, c0⟩ : ∃ v, wr.cell? ⟨gi, n, none⟩ = some v := ⟨_, HR.out.i.cell n (by rw [li]; exact hlt)⟩
      have f0 := HR.out.i.free n (by rw [li]; exact hlt)
      have x1 : bits .xor .u8 ((k.data.toList.getD n 0).toNat : Int) 54 = (((k.data.toList.getD n 0).toNat ^^^ 54 : Nat) : Int) := u8_xor_nat (k.data.toList.getD n 0).toNat 54 (UInt8.toNat_lt _) (by decide)
      have x2 : bits .xor .u8 ((k.data.toList.getD n 0).toNat : Int) 92 = (((k.data.toList.getD n 0).toNat ^^^ 92 : Nat) : Int) := u8_xor_nat (k.data.toList.getD n 0).toNat 92 (UInt8.toNat_lt _) (by decide)
      have y1 : (k.data.toList.getD n 0 ^^^ 0x36).toNat = (k.data.toList.getD n 0).toNat ^^^ 54 := rfl
      have y2 : (k.data.toList.getD n 0 ^^^ 0x5c).toNat = (k.data.toList.getD n 0).toNat ^^^ 92 := rfl
      rw [y1, y2] at FIN
      have hne := HR.out.ne
      have hgo := HR.out.o.1
      obtain ⟨w4, hw4⟩ : ∃ w4, wr.setCell ⟨gi, n, none⟩ (.int .u8 (((k.data.toList.getD n 0).toNat ^^^ 54 : Nat) : Int)) = w4 := ⟨_, rfl⟩
      obtain ⟨co, c1⟩ : ∃ v, w4.cell? ⟨go, n, none⟩ = some v := ⟨_, by rw [← hw4]; exact (HR.out.o.other _ _ (Ne.symm hne)).cell n (by rw [lo]; exact hlt)⟩
      have f1 : w4.frozen? ⟨go, n, none⟩ = false := by rw [← hw4]; exact (HR.out.o.other _ _ (Ne.symm hne)).free n (by rw [lo]; exact hlt)
      rw [hw4] at FIN
      clear y1 y2 li lo HR hne hgo
      by_cases hin : n < k.size
      · have hini : (n : Int) < (k.size : Int) := by omega
        have hget : k[n].toNat = (k.data.toList.getD n 0).toNat := by
          rw [List.getD_eq_getElem?_getD, List.getElem?_eq_getElem (by simpa using hin)]
          simp [ByteArray.getElem_eq_getElem_data]
        generalize (k.data.toList.getD n 0).toNat = x at *
        generalize x ^^^ 54 = p at *
        generalize x ^^^ 92 = q at *
        go_wp2_with fail
        go_roundw
        case rel => exact ⟨n + 1, by omega, by go_num, FIN⟩
        case measure => simp [intOf]; omega
      · have hini : ¬ (n : Int) < (k.size : Int) := by omega
        have hget : (k.data.toList.getD n 0).toNat = 0 := by
          rw [List.getD_eq_getElem?_getD, List.getElem?_eq_none (by simp; omega)]
          rfl
        rw [hget] at x1 x2 hw4 FIN
        have z1 : (0 : Nat) ^^^ 54 = 54 := by decide
        have z2 : (0 : Nat) ^^^ 92 = 92 := by decide
        rw [z1] at x1 hw4
        rw [z2] at x2 FIN
        have x1' : bits .xor .u8 0 54 = 54 := x1
        have x2' : bits .xor .u8 0 92 = 92 := x2
        have hw4' : wr.setCell ⟨gi, n, none⟩ (.int .u8 54) = w4 := hw4
        have FIN' : Hid (InOut (w4.setCell ⟨go, n, none⟩ (.int .u8 92)) w gi go (madeTo k.data.toList 0x36 (n + 1)) (madeTo k.data.toList 0x5c (n + 1))) := FIN
        clear x1 x2 z1 z2 hget hw4 FIN
        go_wp2_with fail
        go_roundw
        case rel => exact ⟨n + 1, by omega, by go_num, FIN'⟩
        case measure => simp [intOf]; omega
    · obtain rfl : n = 64 := by omega
      have hli : ¬ (((64 : Nat) : Int) < 64) := by omega
      have hci : ∀ w', Below wr.heap.size wr w' → (convert 27 9 (.slice (some ⟨gi, 0, none⟩) 64 64)).run Try.prog w' = .ok (.string ki) w' := fun w' h => by
        have := (HR.out.i.below h).conv 64
        rw [madeTo_all _ _ hkl.out] at this
        rw [List.length_map, pad64_length _ hkl.out] at this
        rw [this, ← HI.out]
        rfl
      have hco : ∀ w', Below wr.heap.size wr w' → (convert 27 9 (.slice (some ⟨go, 0, none⟩) 64 64)).run Try.prog w' = .ok (.string ko) w' := fun w' h => by
        have := (HR.out.o.below h).conv 64
        rw [madeTo_all _ _ hkl.out] at this
        rw [List.length_map, pad64_length _ hkl.out] at this
        rw [this, ← HO.out]
        rfl
      have hbw := HR.out.below
      have CI := Lib.hid hci
      have CO := Lib.hid hco
      have B0 : Below wr.heap.size wr wr := Below.refl _ _
      have C1 := hci wr B0
      have C2 := hco wr B0
      clear hci hco HR hlt
      have s1 : 64 + (d.size : Int) ≤ 9223372036854775807 := by omega
      go_wp2_with fail
      have s2 : (9223372036854775807 < 64 + d.size) = False := by rw [eq_iff_iff, iff_false]; omega
      go_region_held3 (fun w' => Below wr.heap.size wr w' ∧ (convert 27 9 (.slice (some ⟨gi, 0, none⟩) 64 64)).run Try.prog w' = .ok (.string ki) w' ∧ (convert 27 9 (.slice (some ⟨go, 0, none⟩) 64 64)).run Try.prog w' = .ok (.string ko) w') (first | exact ⟨B0.drew, CI.out _ B0.drew, CO.out _ B0.drew⟩ | exact keep9 ⟨B0.drew, CI.out _ B0.drew, CO.out _ B0.drew⟩ b9 CI.out CO.out | exact keep9 (by assumption) b9 CI.out CO.out) ((first | (go_at_call 8; refine (mac_is _ _ _ (by omega) (by omega)).mono ?_; rw [HM.out]; rintro e w9 ⟨rfl, b9⟩) | (go_at_call 13; refine (sum_is _ _ (by rw [ByteArray.size_append]; omega)).mono ?_; (first | rw [HS.out] | rw [HY.out]); rintro e w9 ⟨rfl, b9⟩)))
      all_goals
        have hfin := chain hbw (held1 (gi := gi) (go := go) (ki := ki) (ko := ko) (a := w9) (by assumption))
        go_wp2_with fail
        go_ret
        exact ⟨rfl, hfin⟩
set_option maxHeartbeats 3200000 in
theorem macMade_ss (k s c d y ki ko si : ByteArray) (w : World) (zk : k.size ≤ 140737488351232) (zs : s.size ≤ 140737488351232) (hkk : (k.size : Int) ≤ 64) (hss : (s.size : Int) ≤ 200)
    (HI : Hid (turnB k 0x36 = ki)) (HO : Hid (turnB k 0x5c = ko)) (HS : Hid (sumB (ki ++ s) = si)) (HY : Hid (sumB (ko ++ si) = y)) (HM : Hid (macB k s = y)) (hki : ki.size = 64) (hko : ko.size = 64) (hsi : si.size = 32) :
    Calls Try.prog 6 #[.string k, .string s] w fun e w' => e = .returned (.bool true) ∧ Below w.heap.size w w' := by
  go_enter Try.func6, Try.ntmps6
  try simp only [List.append_eq, List.cons_append, List.nil_append]
  go_wp2_with fail
  refine (examples_any _).mono ?_
  rintro e w1 ⟨rfl, bb⟩
  obtain ⟨w2, hmk, hbi, bz, _⟩ := Buf.zeros w1 64 (by omega)
  obtain ⟨w3, hmk2, hbo, bz2, _⟩ := Buf.zeros w2 64 (by omega)
  have hlt2 : w1.heap.size < w2.heap.size := hbi.1
  have HIO : Hid (InOut w3 w w1.heap.size w2.heap.size (madeTo k.data.toList 0x36 0) (madeTo k.data.toList 0x5c 0)) := Lib.hid (by
    rw [madeTo_zero, madeTo_zero]
    exact ⟨hbi.below bz2, hbo, chain (chain bb bz) bz2, bb.size, Nat.le_trans bb.size (Nat.le_of_lt hlt2), by omega⟩)
  clear bz bz2 hbi hbo bb
  have hmk' : (Instr.makeSlice 27 (.int .i64 64) (.int .i64 64)).run Try.prog w1 = .ok (.slice (some ⟨w1.heap.size, 0, none⟩) 64 64) w2 := hmk
  have hmk2' : (Instr.makeSlice 27 (.int .i64 64) (.int .i64 64)).run Try.prog w2 = .ok (.slice (some ⟨w2.heap.size, 0, none⟩) 64 64) w3 := hmk2
  clear hmk hmk2
  go_wp2_with fail
  clear hmk' hmk2'
  generalize w1.heap.size = gi at *
  generalize w2.heap.size = go at *
  have hkl : Hid (k.data.toList.length ≤ 64) := Lib.hid (by simp; omega)
  go_loopw [8] (fun i wr => ∃ n : Nat, n ≤ 64 ∧ i = .int .i64 (n : Int) ∧ Hid (InOut wr w gi go (madeTo k.data.toList 0x36 n) (madeTo k.data.toList 0x5c n))) (fun i _ => 65 - (intOf i).toNat)
  case atStart => exact ⟨0, by omega, rfl, HIO⟩
  case round =>
    obtain ⟨n, hn, rfl, HR⟩ := hrel
    by_cases hlt : n < 64
    · have hli : (n : Int) < 64 := by omega
      have li := madeTo_length k.data.toList 0x36 n hkl.out hn
      have lo := madeTo_length k.data.toList 0x5c n hkl.out hn
      have FIN := Lib.hid (HR.out.set n (by rw [li]; exact hlt) (by rw [lo]; exact hlt) (k.data.toList.getD n 0 ^^^ 0x36) (k.data.toList.getD n 0 ^^^ 0x5c))
      rw [madeTo_step _ _ n hkl.out hlt, madeTo_step _ _ n hkl.out hlt] at FIN
      obtain ⟨ci, c0⟩ : ∃ v, wr.cell? ⟨gi, n, none⟩ = some v := ⟨_, HR.out.i.cell n (by rw [li]; exact hlt)⟩
      have f0 := HR.out.i.free n (by rw [li]; exact hlt)
      have x1 : bits .xor .u8 ((k.data.toList.getD n 0).toNat : Int) 54 = (((k.data.toList.getD n 0).toNat ^^^ 54 : Nat) : Int) := u8_xor_nat (k.data.toList.getD n 0).toNat 54 (UInt8.toNat_lt _) (by decide)
      have x2 : bits .xor .u8 ((k.data.toList.getD n 0).toNat : Int) 92 = (((k.data.toList.getD n 0).toNat ^^^ 92 : Nat) : Int) := u8_xor_nat (k.data.toList.getD n 0).toNat 92 (UInt8.toNat_lt _) (by decide)
      have y1 : (k.data.toList.getD n 0 ^^^ 0x36).toNat = (k.data.toList.getD n 0).toNat ^^^ 54 := rfl
      have y2 : (k.data.toList.getD n 0 ^^^ 0x5c).toNat = (k.data.toList.getD n 0).toNat ^^^ 92 := rfl
      rw [y1, y2] at FIN
      have hne := HR.out.ne
      have hgo := HR.out.o.1
      obtain ⟨w4, hw4⟩ : ∃ w4, wr.setCell ⟨gi, n, none⟩ (.int .u8 (((k.data.toList.getD n 0).toNat ^^^ 54 : Nat) : Int)) = w4 := ⟨_, rfl⟩
      obtain ⟨co, c1⟩ : ∃ v, w4.cell? ⟨go, n, none⟩ = some v := ⟨_, by rw [← hw4]; exact (HR.out.o.other _ _ (Ne.symm hne)).cell n (by rw [lo]; exact hlt)⟩
      have f1 : w4.frozen? ⟨go, n, none⟩ = false := by rw [← hw4]; exact (HR.out.o.other _ _ (Ne.symm hne)).free n (by rw [lo]; exact hlt)
      rw [hw4] at FIN
      clear y1 y2 li lo HR hne hgo
      by_cases hin : n < k.size
      · have hini : (n : Int) < (k.size : Int) := by omega
        have hget : k[n].toNat = (k.data.toList.getD n 0).toNat := by
          rw [List.getD_eq_getElem?_getD, List.getElem?_eq_getElem (by simpa using hin)]
          simp [ByteArray.getElem_eq_getElem_data]
        generalize (k.data.toList.getD n 0).toNat = x at *
        generalize x ^^^ 54 = p at *
        generalize x ^^^ 92 = q at *
        go_wp2_with fail
        go_roundw
        case rel => exact ⟨n + 1, by omega, by go_num, FIN⟩
        case measure => simp [intOf]; omega
      · have hini : ¬ (n : Int) < (k.size : Int) := by omega
        have hget : (k.data.toList.getD n 0).toNat = 0 := by
          rw [List.getD_eq_getElem?_getD, List.getElem?_eq_none (by simp; omega)]
          rfl
        rw [hget] at x1 x2 hw4 FIN
        have z1 : (0 : Nat) ^^^ 54 = 54 := by decide
        have z2 : (0 : Nat) ^^^ 92 = 92 := by decide
        rw [z1] at x1 hw4
        rw [z2] at x2 FIN
        have x1' : bits .xor .u8 0 54 = 54 := x1
        have x2' : bits .xor .u8 0 92 = 92 := x2
        have hw4' : wr.setCell ⟨gi, n, none⟩ (.int .u8 54) = w4 := hw4
        have FIN' : Hid (InOut (w4.setCell ⟨go, n, none⟩ (.int .u8 92)) w gi go (madeTo k.data.toList 0x36 (n + 1)) (madeTo k.data.toList 0x5c (n + 1))) := FIN
        clear x1 x2 z1 z2 hget hw4 FIN
        go_wp2_with fail
        go_roundw
        case rel => exact ⟨n + 1, by omega, by go_num, FIN'⟩
        case measure => simp [intOf]; omega
    · obtain rfl : n = 64 := by omega
      have hli : ¬ (((64 : Nat) : Int) < 64) := by omega
      have hci : ∀ w', Below wr.heap.size wr w' → (convert 27 9 (.slice (some ⟨gi, 0, none⟩) 64 64)).run Try.prog w' = .ok (.string ki) w' := fun w' h => by
        have := (HR.out.i.below h).conv 64
        rw [madeTo_all _ _ hkl.out] at this
        rw [List.length_map, pad64_length _ hkl.out] at this
        rw [this, ← HI.out]
        rfl
      have hco : ∀ w', Below wr.heap.size wr w' → (convert 27 9 (.slice (some ⟨go, 0, none⟩) 64 64)).run Try.prog w' = .ok (.string ko) w' := fun w' h => by
        have := (HR.out.o.below h).conv 64
        rw [madeTo_all _ _ hkl.out] at this
        rw [List.length_map, pad64_length _ hkl.out] at this
        rw [this, ← HO.out]
        rfl
      have hbw := HR.out.below
      have CI := Lib.hid hci
      have CO := Lib.hid hco
      have B0 : Below wr.heap.size wr wr := Below.refl _ _
      have C1 := hci wr B0
      have C2 := hco wr B0
      clear hci hco HR hlt
      have s1 : 64 + (s.size : Int) ≤ 9223372036854775807 := by omega
      go_wp2_with fail
      have s2 : (9223372036854775807 < 64 + s.size) = False := by rw [eq_iff_iff, iff_false]; omega
      go_region_held3 (fun w' => Below wr.heap.size wr w' ∧ (convert 27 9 (.slice (some ⟨gi, 0, none⟩) 64 64)).run Try.prog w' = .ok (.string ki) w' ∧ (convert 27 9 (.slice (some ⟨go, 0, none⟩) 64 64)).run Try.prog w' = .ok (.string ko) w') (first | exact ⟨B0.drew, CI.out _ B0.drew, CO.out _ B0.drew⟩ | exact keep9 ⟨B0.drew, CI.out _ B0.drew, CO.out _ B0.drew⟩ b9 CI.out CO.out | exact keep9 (by assumption) b9 CI.out CO.out) ((first | (go_at_call 8; refine (mac_is _ _ _ (by omega) (by omega)).mono ?_; rw [HM.out]; rintro e w9 ⟨rfl, b9⟩) | (go_at_call 13; refine (sum_is _ _ (by rw [ByteArray.size_append]; omega)).mono ?_; (first | rw [HS.out] | rw [HY.out]); rintro e w9 ⟨rfl, b9⟩)))
      all_goals
        have hfin := chain hbw (held1 (gi := gi) (go := go) (ki := ki) (ko := ko) (a := w9) (by assumption))
        go_wp2_with fail
        go_ret
        exact ⟨rfl, hfin⟩
theorem mac_eq (k s : ByteArray) (h : k.size ≤ 64) : sumB (turnB k 0x5c ++ sumB (turnB k 0x36 ++ s)) = macB k s := by
  have h1 : keyB k = k := by unfold keyB; rw [if_neg (by omega)]
  unfold macB
  rw [h1]
theorem macMade_law (a0 a1 : ByteArray) (w : World) (z0 : a0.size ≤ 140737488351232) (z1 : a1.size ≤ 140737488351232) :
    Calls Try.prog 6 #[.string a0, .string a1] w fun e w' => e = .returned (.bool true) ∧ Below w.heap.size w w' := by
  have hz : ∀ a : ByteArray, ((a.extract 0 200).size : Int) ≤ 200 := fun a => by rw [ByteArray.size_extract]; omega
  have hk : ∀ a : ByteArray, ((a.extract 0 64).size : Int) ≤ 64 := fun a => by rw [ByteArray.size_extract]; omega
  rcases Int.lt_or_le 64 (a0.size : Int) with hs | hs
  · have h64 : (a0.extract 0 64).size ≤ 64 := by have := hk a0; omega
    rcases Int.lt_or_le 200 (a1.size : Int) with ht | ht
    · exact macMade_cc a0 a1 _ _ _ _ _ _ w z0 z1 (Lib.hid rfl) (hk _) hs (Lib.hid rfl) (hz _) ht (Lib.hid rfl) (Lib.hid rfl) (Lib.hid rfl) (Lib.hid rfl) (Lib.hid (mac_eq _ _ h64).symm) (turnB_size _ _ h64) (turnB_size _ _ h64) (sumB_size _)
    · exact macMade_cs a0 a1 _ a1 _ _ _ _ w z0 z1 (Lib.hid rfl) (hk _) hs ht (Lib.hid rfl) (Lib.hid rfl) (Lib.hid rfl) (Lib.hid rfl) (Lib.hid (mac_eq _ _ h64).symm) (turnB_size _ _ h64) (turnB_size _ _ h64) (sumB_size _)
  · have h64 : a0.size ≤ 64 := by omega
    rcases Int.lt_or_le 200 (a1.size : Int) with ht | ht
    · exact macMade_sc a0 a1 a0 _ _ _ _ _ w z0 z1 hs (Lib.hid rfl) (hz _) ht (Lib.hid rfl) (Lib.hid rfl) (Lib.hid rfl) (Lib.hid rfl) (Lib.hid (mac_eq _ _ h64).symm) (turnB_size _ _ h64) (turnB_size _ _ h64) (sumB_size _)
    · exact macMade_ss a0 a1 a0 a1 _ _ _ _ w z0 z1 hs ht (Lib.hid rfl) (Lib.hid rfl) (Lib.hid rfl) (Lib.hid rfl) (Lib.hid (mac_eq _ _ h64).symm) (turnB_size _ _ h64) (turnB_size _ _ h64) (sumB_size _)
end Go.Proofs.Ytglmepdgepjeiaa
