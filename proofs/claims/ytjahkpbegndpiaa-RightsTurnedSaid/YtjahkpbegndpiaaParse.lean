/-
  Contracts of rights.Parse and bailiwickref05.Parse.
-/
import Derived.Test.YtjahkpbegndpiaaRightsText
import Derived.Deep.Light
namespace Go.Proofs.Ytjahkpbegndpiaa
open Go.RowKit
set_option linter.unusedVariables false

/-- One letter more. -/
def pstep (m : Nat) (c : UInt8) : Option Nat := if 97 ≤ c.toNat ∧ c.toNat ≤ 112 ∧ m / 2 ^ (c.toNat - 97) % 2 = 0 then some (m ||| 2 ^ (c.toNat - 97)) else none
def pfold : List UInt8 → Nat → Option Nat
  | [], m => some m
  | c :: l, m => match pstep m c with
    | some m' => pfold l m'
    | none => none
def parN (s : ByteArray) : Int := match pfold s.data.toList 0 with
  | some m => (m : Int)
  | none => 0
def parB (s : ByteArray) : Bool := (pfold s.data.toList 0).isSome
theorem pfold_append (a b : List UInt8) (m : Nat) : pfold (a ++ b) m = (pfold a m).bind (pfold b) := by
  induction a generalizing m with
  | nil => rfl
  | cons c a ih =>
    simp only [List.cons_append, pfold]
    cases pstep m c with
    | none => rfl
    | some m' => exact ih m'
theorem pfold_take (s : ByteArray) (k : Nat) (h : k < s.size) (m : Nat) (hm : pfold (s.data.toList.take k) 0 = some m) :
    pfold (s.data.toList.take (k + 1)) 0 = pstep m s[k] := by
  rw [List.take_succ_eq_append_getElem (by simpa using h), pfold_append, hm]
  show pfold [s.data.toList[k]] m = _
  show (match pstep m s[k] with | some m' => pfold [] m' | none => none) = _
  cases pstep m s[k] <;> rfl
theorem pfold_none (s : ByteArray) (k : Nat) (h : pfold (s.data.toList.take k) 0 = none) : pfold s.data.toList 0 = none := by
  have e := List.take_append_drop k s.data.toList
  rw [← e, pfold_append, h]; rfl
theorem par_none (s : ByteArray) (k : Nat) (h : pfold (s.data.toList.take k) 0 = none) : parN s = 0 ∧ parB s = false := by
  have := pfold_none s k h
  simp [parN, parB, this]
theorem par_some (s : ByteArray) (k m : Nat) (hk : s.size ≤ k) (h : pfold (s.data.toList.take k) 0 = some m) : parN s = (m : Int) ∧ parB s = true := by
  rw [List.take_of_length_le (by simpa using hk)] at h
  simp [parN, parB, h]
theorem pstep_lt {m m' : Nat} {c : UInt8} (hm : m < 65536) (h : pstep m c = some m') : m' < 65536 := by
  unfold pstep at h
  split at h
  · rename_i hc
    cases h
    have : 2 ^ (c.toNat - 97) < 2 ^ 16 := Nat.pow_lt_pow_right (by decide) (by omega)
    exact Nat.or_lt_two_pow (n := 16) hm this
  · cases h
theorem pstep_yes {m : Nat} {c : UInt8} (j : Nat) (hc : c.toNat = 97 + j) (hj : j < 16) (hb : m &&& 2 ^ j = 0) : pstep m c = some (m ||| 2 ^ j) := by
  have e : c.toNat - 97 = j := by omega
  have hp : 0 < 2 ^ j := Nat.pow_pos (by decide)
  rw [nat_bit] at hb
  unfold pstep
  have hz : m / 2 ^ j % 2 = 0 := by rcases Nat.mul_eq_zero.1 hb with h | h <;> omega
  rw [e, if_pos ⟨by omega, by omega, hz⟩]
theorem pstep_no {m : Nat} {c : UInt8} (j : Nat) (hc : c.toNat = 97 + j) (hb : ¬ m &&& 2 ^ j = 0) : pstep m c = none := by
  have e : c.toNat - 97 = j := by omega
  unfold pstep
  rw [e, if_neg]
  rintro ⟨_, _, h⟩
  apply hb
  rw [nat_bit, h]; simp
theorem pstep_out {m : Nat} {c : UInt8} (h : c.toNat < 97 ∨ 112 < c.toNat) : pstep m c = none := by
  unfold pstep
  rw [if_neg (by omega)]
theorem i64_or_nat (a b : Nat) (ha : a < 9223372036854775808) (hb : b < 9223372036854775808) : bits .or .i64 (a : Int) (b : Int) = ((a ||| b : Nat) : Int) := by
  have hx : a ||| b < 2 ^ 63 := Nat.or_lt_two_pow (by omega) (by omega)
  show IntKind.i64.wrap ((BitVec.ofInt 64 (a : Int) ||| BitVec.ofInt 64 (b : Int)).toNat : Int) = _
  rw [BitVec.toNat_or, ofInt_i64 a ha, ofInt_i64 b hb, IntKind.wrap_i64]
  omega

/-- The rune at a place whose byte is a letter, and at any other. -/
theorem next_at (s : ByteArray) (pos : Nat) (h : pos < s.size) : ((s[pos]).toNat < 128 ∧ Utf8.decode s pos = ((s[pos]).toNat, 1)) ∨ (128 ≤ (s[pos]).toNat ∧ 128 ≤ (Utf8.decode s pos).1) := by
  by_cases ha : (s[pos]).toNat < 128
  · exact .inl ⟨ha, decode_ascii s pos h ha⟩
  · exact .inr ⟨by omega, (decode_high s pos h (by omega)).1⟩

set_option maxHeartbeats 1000000 in
theorem parse_any (s : ByteArray) (w : World) (hs : s.size ≤ 9223372036854775807) :
    Calls Try.prog 12 #[.string s] w fun e w' => e = .returned (.tuple #[.int .i64 (parN s), .bool (parB s)]) ∧ Below w.heap.size w w' := by
  have PN := Lib.hid (fun k => par_none s k)
  have PS := Lib.hid (fun k m => par_some s k m)
  have PT := Lib.hid (pfold_take s)
  go_enter Try.func12, Try.ntmps12
  go_wp2_with fail
  go_loopw [4, 6, 7] (fun ms _ _ wr => ∃ k m : Nat, k ≤ s.size ∧ m < 65536 ∧ ms = .int .i64 m ∧ pfold (s.data.toList.take k) 0 = some m ∧ wr.heap[w.heap.size]? = some (.stringIter s k) ∧ Below w.heap.size w wr) (fun _ _ _ wr => s.size - wr.iterPos w.heap.size)
  case atStart => exact ⟨0, 0, by omega, by omega, rfl, rfl, World.iter_heap _ _ _, (Below.refl _ _).alloc (Nat.le_refl _) _⟩
  case round =>
    obtain ⟨k, m, hk, hm, rfl, hpf, hit, hbw⟩ := hrel
    have PF := Lib.hid hpf
    have IT := Lib.hid hit
    clear hpf
    have hsz : w.heap.size < wr.heap.size := (Array.getElem?_eq_some_iff.1 hit).1
    by_cases hlt : k < s.size
    · have hnext := fun ty => Lib.run_next_any_at (P := Try.prog) wr w.heap.size s k ty IT.out hlt
      have NONE : Hid (pstep m s[k] = none → parN s = 0 ∧ parB s = false) := fun h => PN.out (k + 1) (by rw [PT.out k hlt m PF.out, h])
      have STEP : Hid (∀ m', pstep m s[k] = some m' → pfold (s.data.toList.take (k + 1)) 0 = some m') := fun m' h => by rw [PT.out k hlt m PF.out, h]
      have hit2 := Lib.hid (Lib.iterAt_heap wr w.heap.size s k (k + 1) IT.out)
      have hsz2 : w.heap.size < (wr.iterAt w.heap.size s (k + 1)).heap.size := by rw [Lib.iterAt_size]; exact hsz
      have hbw2 : Below w.heap.size w (wr.iterAt w.heap.size s (k + 1)) := Lib.below_iterAt hbw (Nat.le_refl _) s (k + 1)
      rcases next_at s k hlt with ⟨ha, hd⟩ | ⟨ha, hd⟩
      · rw [hd] at hnext
        clear hd
        by_cases hl : 97 ≤ s[k].toNat ∧ s[k].toNat ≤ 112
        · obtain ⟨j, hj⟩ : ∃ j, s[k].toNat = 97 + j := ⟨s[k].toNat - 97, by omega⟩
          have hj16 : j < 16 := by omega
          have YES := Lib.hid (fun (h : m &&& 2 ^ j = 0) => pstep_yes (c := s[k]) j hj hj16 h)
          have NO := Lib.hid (fun (h : ¬ m &&& 2 ^ j = 0) => pstep_no (c := s[k]) j hj h)
          have BN := Lib.hid (show bitN ((s[k].toNat : Nat) : Int) = ((2 ^ j : Nat) : Int) by rw [hj, ← bit_yes j hj16]; rfl)
          have hp := pow_small j hj16
          have AND := i64_and_nat m (2 ^ j) (by omega) (by omega)
          have OR := i64_or_nat m (2 ^ j) (by omega) (by omega)
          have LT := Lib.hid (fun m' (h : pstep m s[k] = some m') => pstep_lt hm h)
          generalize 2 ^ j = B at *
          generalize s[k].toNat = c at *
          clear hj hl hit ha
          by_cases hb : m &&& B = 0
          · have ST := Lib.hid (STEP.out _ (YES.out hb))
            have ML := Lib.hid (LT.out _ (YES.out hb))
            rw [hb] at AND
            clear hb
            go_wp2_with fail
            refine (bit_any _ _).mono ?_
            rw [BN.out]
            rintro e w4 ⟨rfl, b4⟩
            have it4 := Lib.hid ((b4.block _ hsz2).trans hit2.out)
            have bb := chain hbw2 b4
            clear b4 hsz2 hbw2 hbw hnext
            go_wp2_with fail
            go_roundw
            case rel => exact ⟨k + 1, _, by omega, ML.out, rfl, ST.out, it4.out, bb⟩
            case measure => rw [iterPos_of it4.out, iterPos_of IT.out]; omega
          · have FIN := Lib.hid (NONE.out (NO.out hb))
            have hC : 1 ≤ m &&& B := Nat.pos_of_ne_zero hb
            generalize m &&& B = C at *
            have hCb : ((C : Int) != 0) = true := by simp; omega
            have hBb : ((B : Int) == 0) = false := by simp; omega
            clear hb
            go_wp2_with fail
            refine (bit_any _ _).mono ?_
            rw [BN.out]
            rintro e w4 ⟨rfl, b4⟩
            have bb := chain hbw2 b4
            clear b4 hsz2 hbw2 hbw hnext
            go_wp2_with fail
            go_ret2
            exact ⟨by rw [FIN.out.1, FIN.out.2]; rfl, bb⟩
        · have FIN := Lib.hid (NONE.out (pstep_out (by omega)))
          have BN := Lib.hid (show bitN ((s[k].toNat : Nat) : Int) = 0 by unfold bitN; rw [if_neg (by omega)])
          generalize s[k].toNat = c at *
          clear hl hit IT ha
          go_wp2_with fail
          refine (bit_any _ _).mono ?_
          rw [BN.out]
          rintro e w4 ⟨rfl, b4⟩
          have bb := chain hbw2 b4
          clear b4 hsz2 hbw2 hbw hnext
          go_wp2_with fail
          go_ret2
          exact ⟨by rw [FIN.out.1, FIN.out.2]; rfl, bb⟩
      · have FIN := Lib.hid (NONE.out (pstep_out (by omega)))
        have BN := Lib.hid (show bitN (((Utf8.decode s k).1 : Nat) : Int) = 0 by unfold bitN; rw [if_neg (by omega)])
        have hsz3 : w.heap.size < (wr.iterAt w.heap.size s (k + (Utf8.decode s k).2)).heap.size := by rw [Lib.iterAt_size]; exact hsz
        have hbw3 : Below w.heap.size w (wr.iterAt w.heap.size s (k + (Utf8.decode s k).2)) := Lib.below_iterAt hbw (Nat.le_refl _) s _
        generalize (Utf8.decode s k).2 = d2 at *
        generalize (Utf8.decode s k).1 = d1 at *
        clear hit IT ha hit2 hsz2 hbw2
        go_wp2_with fail
        refine (bit_any _ _).mono ?_
        rw [BN.out]
        rintro e w4 ⟨rfl, b4⟩
        have bb := chain hbw3 b4
        clear b4 hsz3 hbw3 hbw hnext
        go_wp2_with fail
        go_ret2
        exact ⟨by rw [FIN.out.1, FIN.out.2]; rfl, bb⟩
    · have FIN := Lib.hid (PS.out k m (by omega) PF.out)
      have hend := fun ty => Lib.run_next_end_at (P := Try.prog) wr w.heap.size s k ty IT.out hlt
      clear hit
      go_wp2_with fail
      go_ret2
      exact ⟨by rw [FIN.out.1, FIN.out.2]; rfl, hbw⟩

set_option maxHeartbeats 1000000 in
theorem refParse_any (s : ByteArray) (w : World) (hs : s.size ≤ 9223372036854775807) :
    Calls Try.prog 13 #[.string s] w fun e w' => e = .returned (.tuple #[.int .i64 (parN s), .bool (parB s)]) ∧ w = w' := by
  have PN := Lib.hid (fun k => par_none s k)
  have PS := Lib.hid (fun k m => par_some s k m)
  have PT := Lib.hid (pfold_take s)
  go_enter Try.func13, Try.ntmps13
  go_wp2_with fail
  go_loop [4, 5] (fun ms i => ∃ k m : Nat, k ≤ s.size ∧ m < 65536 ∧ ms = .int .i64 m ∧ i = .int .i64 k ∧ Hid (pfold (s.data.toList.take k) 0 = some m)) (fun _ i => s.size - (intOf i).toNat)
  case atStart => exact ⟨0, 0, by omega, by omega, rfl, rfl, Lib.hid rfl⟩
  case round =>
    obtain ⟨k, m, hk, hm, rfl, rfl, PF⟩ := hrel
    by_cases hlt : k < s.size
    · have NONE : Hid (pstep m s[k] = none → parN s = 0 ∧ parB s = false) := fun h => PN.out (k + 1) (by rw [PT.out k hlt m PF.out, h])
      have STEP : Hid (∀ m', pstep m s[k] = some m' → pfold (s.data.toList.take (k + 1)) 0 = some m') := fun m' h => by rw [PT.out k hlt m PF.out, h]
      by_cases hl : 97 ≤ s[k].toNat ∧ s[k].toNat ≤ 112
      · obtain ⟨j, hj⟩ : ∃ j, s[k].toNat = 97 + j := ⟨s[k].toNat - 97, by omega⟩
        have hj16 : j < 16 := by omega
        have d1 : decide (97 + (j : Int) < 97) = false := by simp; omega
        have d2 : decide (112 < 97 + (j : Int)) = false := by simp; omega
        have hq := bit_and m j (by omega)
        have hp := pow_small j hj16
        have OR : bits .or .i64 (m : Int) (wrap64 ((2 : Int) ^ j)) = ((m ||| 2 ^ j : Nat) : Int) := by
          rw [pow_wrap j hj16]; exact i64_or_nat m (2 ^ j) (by omega) (by omega)
        have NB := Lib.hid (nat_bit j m)
        have LT := Lib.hid (fun m' (h : pstep m s[k] = some m') => pstep_lt hm h)
        have YES := Lib.hid (fun (h : m &&& 2 ^ j = 0) => pstep_yes (c := s[k]) j hj hj16 h)
        have NO := Lib.hid (fun (h : ¬ m &&& 2 ^ j = 0) => pstep_no (c := s[k]) j hj h)
        rcases (show m / 2 ^ j % 2 = 0 ∨ m / 2 ^ j % 2 = 1 by omega) with h0 | h1
        · rw [h0] at hq
          have ST := Lib.hid (STEP.out _ (YES.out (by rw [NB.out, h0]; simp)))
          have ML := Lib.hid (LT.out _ (YES.out (by rw [NB.out, h0]; simp)))
          clear h0 hp
          go_wp2_with fail
          go_round
          case rel => exact ⟨k + 1, _, by omega, ML.out, rfl, by go_num, ST⟩
          case measure => simp [intOf]; omega
        · rw [h1] at hq
          have FIN := Lib.hid (NONE.out (NO.out (by rw [NB.out, h1]; omega)))
          clear h1 hp OR
          go_wp2_with fail
          go_ret2
          exact ⟨by rw [FIN.out.1, FIN.out.2]; rfl, rfl⟩
      · have FIN := Lib.hid (NONE.out (pstep_out (by omega)))
        have hl1 : (s[k].toNat : Int) < 97 ∨ (112 : Int) < s[k].toNat := by omega
        clear hl
        rcases hl1 with hl1 | hl1
        · go_wp2_with fail
          go_ret2
          exact ⟨by rw [FIN.out.1, FIN.out.2]; rfl, rfl⟩
        · go_wp2_with fail
          go_ret2
          exact ⟨by rw [FIN.out.1, FIN.out.2]; rfl, rfl⟩
    · have FIN := Lib.hid (PS.out k m (by omega) PF.out)
      go_wp2_with fail
      go_ret2
      exact ⟨by rw [FIN.out.1, FIN.out.2]; rfl, rfl⟩
end Go.Proofs.Ytjahkpbegndpiaa
