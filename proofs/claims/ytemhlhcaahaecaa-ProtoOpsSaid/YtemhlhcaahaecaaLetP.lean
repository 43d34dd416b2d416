/-
  Contracts of rights.Text and rights.Parse, and what letters are, without the document's answer.
-/
import Derived.Test.YtemhlhcaahaecaaMaskP
import Derived.Test.YtemhlhcaahaecaaOwn
import Derived.Lib.OthersKept
import Derived.Deep.Light
namespace Go.Proofs.Ytemhlhcaahaecaa
open Go.RowKit
set_option linter.unusedVariables false
set_option linter.unusedSimpArgs false
set_option linter.unusedVariables false
/-- How many of the first k bits of x are 1. -/
def pc : Nat → Nat → Nat
  | 0, _ => 0
  | k + 1, x => x % 2 + pc k (x / 2)
theorem pc_succ (k x : Nat) : pc (k + 1) x = pc k x + x / 2 ^ k % 2 := by
  induction k generalizing x with
  | zero => simp [pc]
  | succ k ih =>
    rw [pc, ih (x / 2), pc, Nat.div_div_eq_div_mul, show 2 * 2 ^ k = 2 ^ (k + 1) by rw [Nat.pow_succ]; omega]
    omega
theorem bit_and (n k : Nat) (h : n ≤ 65535) : bits .and .i64 ((n : Int) / 2 ^ k) 1 = ((n / 2 ^ k % 2 : Nat) : Int) := by
  have hd : n / 2 ^ k ≤ n := Nat.div_le_self _ _
  have := i64_and_nat (n / 2 ^ k) 1 (by omega) (by decide)
  rw [Nat.and_one_is_mod, Int.natCast_ediv, Int.natCast_pow] at this
  exact this
theorem pc_le (k x : Nat) : pc k x ≤ k := by
  induction k generalizing x with
  | zero => simp [pc]
  | succ k ih => have := ih (x / 2); rw [pc]; omega
set_option linter.unusedVariables false
/-- The letters of the rights. -/
def LET : ByteArray := ⟨#[97, 98, 99, 100, 101, 102, 103, 104, 105, 106, 107, 108, 109, 110, 111, 112]⟩
theorem LET_size : LET.size = 16 := rfl
theorem LET_at : ∀ k : Fin 16, (LET[k.val]'(by rw [LET_size]; exact k.isLt)).toNat = 97 + k.val := by decide
def bitN (r : Int) : Int := if 97 ≤ r ∧ r ≤ 112 then ((2 ^ (r - 97).toNat : Nat) : Int) else 0
theorem next_let (k : Nat) (hk : k < 16) (w : World) (ty : TypeId) :
    (Instr.next (.pointer (some ⟨w.heap.size, 0, none⟩)) true ty).run Try.prog (w.iter LET k) = .ok (.tuple #[.bool true, .int .i64 k, .int .i32 ((97 : Int) + k)]) (w.iter LET (k + 1)) := by
  have h := LET_at ⟨k, hk⟩
  simp only at h
  have := run_next_ascii (P := Try.prog) w LET k ty (by rw [LET_size]; exact hk) (by omega)
  rw [h] at this
  exact this
theorem let_end (w : World) (ty : TypeId) :
    (Instr.next (.pointer (some ⟨w.heap.size, 0, none⟩)) true ty).run Try.prog (w.iter LET 16) = .ok (.tuple #[.bool false]) (w.iter LET 16) :=
  run_next_end (P := Try.prog) w LET 16 ty (by rw [LET_size]; omega)
theorem bit_yes (k : Nat) (h : k < 16) : bitN (97 + (k : Int)) = ((2 ^ k : Nat) : Int) := by
  unfold bitN; rw [if_pos (by omega)]; congr 2; omega
theorem pow_small (k : Nat) (h : k < 16) : 1 ≤ 2 ^ k ∧ 2 ^ k ≤ 32768 := by
  have h1 : 2 ^ k ≤ 2 ^ 15 := Nat.pow_le_pow_right (by decide) (by omega)
  have h2 : 0 < 2 ^ k := Nat.pow_pos (by decide)
  simp only [Nat.reducePow] at h1
  omega
theorem pow_wrap (k : Nat) (h : k < 16) : wrap64 ((2 : Int) ^ k) = ((2 ^ k : Nat) : Int) := by
  have hp := pow_small k h
  have e : (2 : Int) ^ k = ((2 ^ k : Nat) : Int) := by rw [Int.natCast_pow]; rfl
  rw [e, IntWalk.wrap64_in]
  omega
set_option maxHeartbeats 400000 in
theorem bit_any (r : Int) (w : World) :
    Calls Try.prog 48 #[.int .i32 r] w fun e w' => e = .returned (.int .i64 (bitN r)) ∧ Below w.heap.size w w' := by
  go_enter Try.func48, Try.ntmps48
  go_wp2_with fail
  go_loopw [3, 4] (fun _ _ wr => ∃ k : Nat, k ≤ 16 ∧ (∀ j : Nat, j < k → r ≠ 97 + (j : Int)) ∧ wr = w.iter LET k) (fun _ _ wr => 16 - wr.iterPos w.heap.size)
  case atStart => exact ⟨0, by omega, fun j hj => by omega, rfl⟩
  case round =>
    obtain ⟨k, hk, hno, rfl⟩ := hrel
    have NO := Lib.hid hno
    clear hno
    by_cases hlt : k < 16
    · have hnext := next_let k hlt w
      by_cases hr : r = 97 + (k : Int)
      · subst hr
        have F := Lib.hid (bit_yes k hlt)
        have P2 := Lib.hid (pow_wrap k hlt)
        go_wp2_with fail
        go_ret
        exact ⟨ret_int (by rw [F.out, P2.out]), (Below.refl _ _).alloc (Nat.le_refl _) _⟩
      · have hr' : (r == 97 + (k : Int)) = false := by simp [hr]
        have hr2 := Lib.hid hr
        clear hr
        go_wp2_with fail
        go_roundw
        case rel => exact ⟨k + 1, by omega, fun j hj => by
          rcases Nat.lt_or_ge j k with h | h
          · exact NO.out j h
          · obtain rfl : j = k := by omega
            exact hr2.out, rfl⟩
        case measure => simp; omega
    · obtain rfl : k = 16 := by omega
      have hend := let_end w
      have F := Lib.hid (show bitN r = 0 by
        unfold bitN
        rw [if_neg]
        intro h
        exact NO.out (r - 97).toNat (by omega) (by omega))
      go_wp2_with fail
      go_ret
      exact ⟨by rw [F.out]; rfl, (Below.refl _ _).alloc (Nat.le_refl _) _⟩
set_option linter.unusedVariables false
/-- One letter more. -/
def pstep (m : Nat) (c : UInt8) : Option Nat := if 97 ≤ c.toNat ∧ c.toNat ≤ 112 ∧ m / 2 ^ (c.toNat - 97) % 2 = 0 then some (m ||| 2 ^ (c.toNat - 97)) else none
def pfold : List UInt8 → Nat → Option Nat
  | [], m => some m
  | c :: l, m => match pstep m c with
    | some m' => pfold l m'
    | none => none
def parN (s : ByteArray) : Int := match pfold s.data.toList 0 with
  | some m => (m : Int)
  | none => 0
def parB (s : ByteArray) : Bool := (pfold s.data.toList 0).isSome
theorem pfold_append (a b : List UInt8) (m : Nat) : pfold (a ++ b) m = (pfold a m).bind (pfold b) := by
  induction a generalizing m with
  | nil => rfl
  | cons c a ih =>
    simp only [List.cons_append, pfold]
    cases pstep m c with
    | none => rfl
    | some m' => exact ih m'
theorem pfold_take (s : ByteArray) (k : Nat) (h : k < s.size) (m : Nat) (hm : pfold (s.data.toList.take k) 0 = some m) :
    pfold (s.data.toList.take (k + 1)) 0 = pstep m s[k] := by
  rw [List.take_succ_eq_append_getElem (by simpa using h), pfold_append, hm]
  show pfold [s.data.toList[k]] m = _
  show (match pstep m s[k] with | some m' => pfold [] m' | none => none) = _
  cases pstep m s[k] <;> rfl
theorem pfold_none (s : ByteArray) (k : Nat) (h : pfold (s.data.toList.take k) 0 = none) : pfold s.data.toList 0 = none := by
  have e := List.take_append_drop k s.data.toList
  rw [← e, pfold_append, h]; rfl
theorem par_none (s : ByteArray) (k : Nat) (h : pfold (s.data.toList.take k) 0 = none) : parN s = 0 ∧ parB s = false := by
  have := pfold_none s k h
  simp [parN, parB, this]
theorem par_some (s : ByteArray) (k m : Nat) (hk : s.size ≤ k) (h : pfold (s.data.toList.take k) 0 = some m) : parN s = (m : Int) ∧ parB s = true := by
  rw [List.take_of_length_le (by simpa using hk)] at h
  simp [parN, parB, h]
theorem pstep_lt {m m' : Nat} {c : UInt8} (hm : m < 65536) (h : pstep m c = some m') : m' < 65536 := by
  unfold pstep at h
  split at h
  · rename_i hc
    cases h
    have : 2 ^ (c.toNat - 97) < 2 ^ 16 := Nat.pow_lt_pow_right (by decide) (by omega)
    exact Nat.or_lt_two_pow (n := 16) hm this
  · cases h
theorem pstep_yes {m : Nat} {c : UInt8} (j : Nat) (hc : c.toNat = 97 + j) (hj : j < 16) (hb : m &&& 2 ^ j = 0) : pstep m c = some (m ||| 2 ^ j) := by
  have e : c.toNat - 97 = j := by omega
  have hp : 0 < 2 ^ j := Nat.pow_pos (by decide)
  rw [nat_bit] at hb
  unfold pstep
  have hz : m / 2 ^ j % 2 = 0 := by rcases Nat.mul_eq_zero.1 hb with h | h <;> omega
  rw [e, if_pos ⟨by omega, by omega, hz⟩]
theorem pstep_no {m : Nat} {c : UInt8} (j : Nat) (hc : c.toNat = 97 + j) (hb : ¬ m &&& 2 ^ j = 0) : pstep m c = none := by
  have e : c.toNat - 97 = j := by omega
  unfold pstep
  rw [e, if_neg]
  rintro ⟨_, _, h⟩
  apply hb
  rw [nat_bit, h]; simp
theorem pstep_out {m : Nat} {c : UInt8} (h : c.toNat < 97 ∨ 112 < c.toNat) : pstep m c = none := by
  unfold pstep
  rw [if_neg (by omega)]
theorem i64_or_nat (a b : Nat) (ha : a < 9223372036854775808) (hb : b < 9223372036854775808) : bits .or .i64 (a : Int) (b : Int) = ((a ||| b : Nat) : Int) := by
  have hx : a ||| b < 2 ^ 63 := Nat.or_lt_two_pow (by omega) (by omega)
  show IntKind.i64.wrap ((BitVec.ofInt 64 (a : Int) ||| BitVec.ofInt 64 (b : Int)).toNat : Int) = _
  rw [BitVec.toNat_or, ofInt_i64 a ha, ofInt_i64 b hb, IntKind.wrap_i64]
  omega
/-- The rune at a place whose byte is a letter, and at any other. -/
theorem next_at (s : ByteArray) (pos : Nat) (h : pos < s.size) : ((s[pos]).toNat < 128 ∧ Utf8.decode s pos = ((s[pos]).toNat, 1)) ∨ (128 ≤ (s[pos]).toNat ∧ 128 ≤ (Utf8.decode s pos).1) := by
  by_cases ha : (s[pos]).toNat < 128
  · exact .inl ⟨ha, decode_ascii s pos h ha⟩
  · exact .inr ⟨by omega, (decode_high s pos h (by omega)).1⟩
set_option maxHeartbeats 1000000 in
theorem parse_any (s : ByteArray) (w : World) (hs : s.size ≤ 9223372036854775807) :
    Calls Try.prog 47 #[.string s] w fun e w' => e = .returned (.tuple #[.int .i64 (parN s), .bool (parB s)]) ∧ Below w.heap.size w w' := by
  have PN := Lib.hid (fun k => par_none s k)
  have PS := Lib.hid (fun k m => par_some s k m)
  have PT := Lib.hid (pfold_take s)
  go_enter Try.func47, Try.ntmps47
  go_wp2_with fail
  go_loopw [4, 6, 7] (fun ms _ _ wr => ∃ k m : Nat, k ≤ s.size ∧ m < 65536 ∧ ms = .int .i64 m ∧ pfold (s.data.toList.take k) 0 = some m ∧ wr.heap[w.heap.size]? = some (.stringIter s k) ∧ Below w.heap.size w wr) (fun _ _ _ wr => s.size - wr.iterPos w.heap.size)
  case atStart => exact ⟨0, 0, by omega, by omega, rfl, rfl, World.iter_heap _ _ _, (Below.refl _ _).alloc (Nat.le_refl _) _⟩
  case round =>
    obtain ⟨k, m, hk, hm, rfl, hpf, hit, hbw⟩ := hrel
    have PF := Lib.hid hpf
    have IT := Lib.hid hit
    clear hpf
    have hsz : w.heap.size < wr.heap.size := (Array.getElem?_eq_some_iff.1 hit).1
    by_cases hlt : k < s.size
    · have hnext := fun ty => Lib.run_next_any_at (P := Try.prog) wr w.heap.size s k ty IT.out hlt
      have NONE : Hid (pstep m s[k] = none → parN s = 0 ∧ parB s = false) := fun h => PN.out (k + 1) (by rw [PT.out k hlt m PF.out, h])
      have STEP : Hid (∀ m', pstep m s[k] = some m' → pfold (s.data.toList.take (k + 1)) 0 = some m') := fun m' h => by rw [PT.out k hlt m PF.out, h]
      have hit2 := Lib.hid (Lib.iterAt_heap wr w.heap.size s k (k + 1) IT.out)
      have hsz2 : w.heap.size < (wr.iterAt w.heap.size s (k + 1)).heap.size := by rw [Lib.iterAt_size]; exact hsz
      have hbw2 : Below w.heap.size w (wr.iterAt w.heap.size s (k + 1)) := Lib.below_iterAt hbw (Nat.le_refl _) s (k + 1)
      rcases next_at s k hlt with ⟨ha, hd⟩ | ⟨ha, hd⟩
      · rw [hd] at hnext
        clear hd
        by_cases hl : 97 ≤ s[k].toNat ∧ s[k].toNat ≤ 112
        · obtain ⟨j, hj⟩ : ∃ j, s[k].toNat = 97 + j := ⟨s[k].toNat - 97, by omega⟩
          have hj16 : j < 16 := by omega
          have YES := Lib.hid (fun (h : m &&& 2 ^ j = 0) => pstep_yes (c := s[k]) j hj hj16 h)
          have NO := Lib.hid (fun (h : ¬ m &&& 2 ^ j = 0) => pstep_no (c := s[k]) j hj h)
          have BN := Lib.hid (show bitN ((s[k].toNat : Nat) : Int) = ((2 ^ j : Nat) : Int) by rw [hj, ← bit_yes j hj16]; rfl)
          have hp := pow_small j hj16
          have AND := i64_and_nat m (2 ^ j) (by omega) (by omega)
          have OR := i64_or_nat m (2 ^ j) (by omega) (by omega)
          have LT := Lib.hid (fun m' (h : pstep m s[k] = some m') => pstep_lt hm h)
          generalize 2 ^ j = B at *
          generalize s[k].toNat = c at *
          clear hj hl hit ha
          by_cases hb : m &&& B = 0
          · have ST := Lib.hid (STEP.out _ (YES.out hb))
            have ML := Lib.hid (LT.out _ (YES.out hb))
            rw [hb] at AND
            clear hb
            go_wp2_with fail
            refine (bit_any _ _).mono ?_
            rw [BN.out]
            rintro e w4 ⟨rfl, b4⟩
            have it4 := Lib.hid ((b4.block _ hsz2).trans hit2.out)
            have bb := chain hbw2 b4
            clear b4 hsz2 hbw2 hbw hnext
            go_wp2_with fail
            go_roundw
            case rel => exact ⟨k + 1, _, by omega, ML.out, rfl, ST.out, it4.out, bb⟩
            case measure => rw [iterPos_of it4.out, iterPos_of IT.out]; omega
          · have FIN := Lib.hid (NONE.out (NO.out hb))
            have hC : 1 ≤ m &&& B := Nat.pos_of_ne_zero hb
            generalize m &&& B = C at *
            have hCb : ((C : Int) != 0) = true := by simp; omega
            have hBb : ((B : Int) == 0) = false := by simp; omega
            clear hb
            go_wp2_with fail
            refine (bit_any _ _).mono ?_
            rw [BN.out]
            rintro e w4 ⟨rfl, b4⟩
            have bb := chain hbw2 b4
            clear b4 hsz2 hbw2 hbw hnext
            go_wp2_with fail
            go_ret2
            exact ⟨by rw [FIN.out.1, FIN.out.2]; rfl, bb⟩
        · have FIN := Lib.hid (NONE.out (pstep_out (by omega)))
          have BN := Lib.hid (show bitN ((s[k].toNat : Nat) : Int) = 0 by unfold bitN; rw [if_neg (by omega)])
          generalize s[k].toNat = c at *
          clear hl hit IT ha
          go_wp2_with fail
          refine (bit_any _ _).mono ?_
          rw [BN.out]
          rintro e w4 ⟨rfl, b4⟩
          have bb := chain hbw2 b4
          clear b4 hsz2 hbw2 hbw hnext
          go_wp2_with fail
          go_ret2
          exact ⟨by rw [FIN.out.1, FIN.out.2]; rfl, bb⟩
      · have FIN := Lib.hid (NONE.out (pstep_out (by omega)))
        have BN := Lib.hid (show bitN (((Utf8.decode s k).1 : Nat) : Int) = 0 by unfold bitN; rw [if_neg (by omega)])
        have hsz3 : w.heap.size < (wr.iterAt w.heap.size s (k + (Utf8.decode s k).2)).heap.size := by rw [Lib.iterAt_size]; exact hsz
        have hbw3 : Below w.heap.size w (wr.iterAt w.heap.size s (k + (Utf8.decode s k).2)) := Lib.below_iterAt hbw (Nat.le_refl _) s _
        generalize (Utf8.decode s k).2 = d2 at *
        generalize (Utf8.decode s k).1 = d1 at *
        clear hit IT ha hit2 hsz2 hbw2
        go_wp2_with fail
        refine (bit_any _ _).mono ?_
        rw [BN.out]
        rintro e w4 ⟨rfl, b4⟩
        have bb := chain hbw3 b4
        clear b4 hsz3 hbw3 hbw hnext
        go_wp2_with fail
        go_ret2
        exact ⟨by rw [FIN.out.1, FIN.out.2]; rfl, bb⟩
    · have FIN := Lib.hid (PS.out k m (by omega) PF.out)
      have hend := fun ty => Lib.run_next_end_at (P := Try.prog) wr w.heap.size s k ty IT.out hlt
      clear hit
      go_wp2_with fail
      go_ret2
      exact ⟨by rw [FIN.out.1, FIN.out.2]; rfl, hbw⟩
set_option linter.unusedVariables false
/-- The numbers of the letters of m among the first k. -/
def let_ (m : Nat) : Nat → List Nat
  | 0 => []
  | k + 1 => if m / 2 ^ k % 2 = 1 then let_ m k ++ [97 + k] else let_ m k
theorem let_length (m k : Nat) : (let_ m k).length ≤ k := by
  induction k with
  | zero => simp [let_]
  | succ k ih =>
    simp only [let_]
    split
    · simp; omega
    · omega
theorem let_bd (m k : Nat) (hk : k ≤ 16) : ∀ n ∈ let_ m k, 97 ≤ n ∧ n < 97 + k := by
  induction k with
  | zero => simp [let_]
  | succ k ih =>
    intro n hn
    simp only [let_] at hn
    split at hn
    · rcases List.mem_append.1 hn with h | h
      · have := ih (by omega) n h; omega
      · simp at h; omega
    · have := ih (by omega) n hn; omega
def textS (m : Int) : ByteArray := if maskOk m then Str ((let_ m.toNat 16).map UInt8.ofNat) else ⟨#[]⟩
theorem info_i32 : (Try.prog.info? 21).map (fun i => (i.zero, i.size, i.bytes)) = some (some (.int .i32 0), 1, 4) := by kernel_rfl
theorem make16 (w : World) : (Instr.makeSlice 151 (.int .i64 0) (.int .i64 16)).run Try.prog w = .ok (.slice (some ⟨w.heap.size, 0, none⟩) 0 16) (w.alloc (.cells (madeCells (Value.int .i32 0).cells 16) 21)) := by
  obtain ⟨i0, hi, hz0, hz1, hz2⟩ := info_parts info_i32
  have := run_make (P := Try.prog) w 151 21 i0 (.int .i32 0) Try.underlying151 hi hz0 .i64 .i64 0 16 (by omega) (by omega) (by rw [hz2]; omega) (by omega)
  rw [this, hz1]
  rfl
theorem next_at_let (w : World) (b k : Nat) (hk : k < 16) (ty : TypeId) (h : w.heap[b]? = some (.stringIter LET k)) :
    (Instr.next (.pointer (some ⟨b, 0, none⟩)) true ty).run Try.prog w = .ok (.tuple #[.bool true, .int .i64 k, .int .i32 ((97 : Int) + k)]) (w.iterAt b LET (k + 1)) := by
  have hl := LET_at ⟨k, hk⟩
  simp only at hl
  have := Lib.run_next_ascii_at (P := Try.prog) w b LET k ty h (by rw [LET_size]; exact hk) (by omega)
  rw [hl] at this
  exact this
set_option maxHeartbeats 1000000 in
theorem rtext_yes (m : Nat) (w : World) (hm : m ≤ 65535) :
    Calls Try.prog 77 #[.int .i64 (m : Int)] w fun e w' => e = .returned (.tuple #[.string (Str ((let_ m 16).map UInt8.ofNat)), .bool true]) ∧ Below w.heap.size w w' := by
  have MK := Lib.hid (show maskOk (m : Int) = true by simp [maskOk]; omega)
  obtain ⟨i0, hi, hz0, hz1, hz2⟩ := info_parts info_i32
  have hmk := make16
  have hM := Lib.hid (World.ownsRow_made (base := w.heap.size) (size := 1) (e := 21) w (madeCells (Value.int .i32 0).cells 16) 16 (Nat.le_refl _) (by unfold maxLen; omega) (by rw [size_madeCells]))
  go_enter Try.func77, Try.ntmps77
  go_wp2_with fail
  refine (isMask_is _ true _ MK.out).mono ?_
  rintro e w1 ⟨rfl, rfl⟩
  go_wp2_with fail
  go_loopw [4, 5, 6] (fun v _ _ wr => ∃ k : Nat, k ≤ 16 ∧ wr.ownsRow w.heap.size 21 1 v (let_ m k).length ((let_ m k).map fun n => .int .i32 ((n : Nat) : Int)) ∧ wr.heap[w.heap.size + 1]? = some (.stringIter LET k) ∧ Below w.heap.size w wr) (fun _ _ _ wr => 16 - wr.iterPos (w.heap.size + 1))
  case atStart =>
    have h1 := World.iter_heap (w.alloc (.cells (madeCells #[.int .i32 0] 16) 21)) LET 0
    rw [show (w.alloc (.cells (madeCells #[.int .i32 0] 16) 21)).heap.size = w.heap.size + 1 by simp] at h1
    exact ⟨0, by omega, hM.out.alloc _, h1, ((Below.refl _ _).alloc (Nat.le_refl _) _).alloc (by simp) _⟩
  case round =>
    obtain ⟨k, hk, hown, hit, hbw⟩ := hrel
    have IT := Lib.hid hit
    have hsz : w.heap.size + 1 < wr.heap.size := (Array.getElem?_eq_some_iff.1 hit).1
    clear hit
    by_cases hlt : k < 16
    · have hnext := fun ty => next_at_let wr (w.heap.size + 1) k hlt ty IT.out
      have it2 := Lib.hid (Lib.iterAt_heap wr (w.heap.size + 1) LET k (k + 1) IT.out)
      have hown2 := own_iterAt hown IT.out (k + 1)
      have hbw2 : Below w.heap.size w (wr.iterAt (w.heap.size + 1) LET (k + 1)) := Lib.below_iterAt hbw (by omega) LET (k + 1)
      have hsz2 : w.heap.size + 1 < (wr.iterAt (w.heap.size + 1) LET (k + 1)).heap.size := by rw [Lib.iterAt_size]; exact hsz
      have hq := bit_and m k hm
      have hlen := let_length m k
      have IP := Lib.hid (iterPos_of IT.out)
      clear hown hbw
      rcases (show m / 2 ^ k % 2 = 0 ∨ m / 2 ^ k % 2 = 1 by omega) with h0 | h1
      · have EQ := Lib.hid (show let_ m (k + 1) = let_ m k by simp [let_, h0])
        rw [h0] at hq
        have OWN := Lib.hid hown2
        clear h0 hown2
        go_wp2_with fail
        go_roundw
        case rel => exact ⟨k + 1, by omega, by rw [EQ.out]; exact OWN.out, it2.out, hbw2⟩
        case measure => rw [IP.out, iterPos_of it2.out]; omega
      · have EQ := Lib.hid (show let_ m (k + 1) = let_ m k ++ [97 + k] by simp [let_, h1])
        rw [h1] at hq
        clear h1
        have OWN := Lib.hid hown2
        clear hown2
        generalize hg : wr.iterAt (w.heap.size + 1) LET (k + 1) = wi at *
        have G := Lib.hid hg
        clear hg
        go_wp2_with (at_builtin; refine wpList_append_own _ rfl _ _ 151 rfl w.heap.size 21 i0 (.int .i32 0) 1 4 Try.underlying151 hi hz0 hz1 hz2 rfl (by decide) _ _ _ rfl (OWN.out.alloc _) ⟨wi.heap.size, 0, none⟩ 1 1 [.int .i32 (97 + (k : Int))] rfl rfl ?c1 ?c2 ?c3 ?c4 ?c5 ?_)
        case c1 =>
          intro j u hj
          match j, hj with
          | 0, hj => simp at hj; subst hj; simp [Addr.add]
        case c2 => intro u hu; simp at hu; subst hu; rfl
        case c3 => unfold maxLen; omega
        case c4 => omega
        case c5 => simp; omega
        · intro v' w' hown' hgrow _
          have R : Hid (w'.ownsRow w.heap.size 21 1 v' (let_ m (k + 1)).length ((let_ m (k + 1)).map fun n => .int .i32 ((n : Nat) : Int))) := by
            rw [EQ.out, List.length_append, List.map_append]
            exact hown'
          have hb2 : Below w.heap.size w w' := (hbw2.alloc (by omega) _).grown hgrow (by simp; omega) (fun g hg => (OWN.out.lt g hg).1)
          have it3 : Hid (w'.heap[w.heap.size + 1]? = some (.stringIter LET (k + 1))) :=
            iter_kept (OWN.out.alloc _) hgrow ((Below.heap_alloc wi _ _ hsz2).trans it2.out)
          clear hown' hgrow hbw2
          go_wp2_with fail
          go_roundw
          case rel => exact ⟨k + 1, by omega, R.out, it3.out, hb2⟩
          case measure => rw [IP.out, iterPos_of it3.out]; omega
    · obtain rfl : k = 16 := by omega
      have hbd := let_bd m 16 (by omega)
      have hconv := conv_runes_own ((let_ m 16).map fun (n : Nat) => (n : Int)) (w := wr) (base := w.heap.size) (n := (let_ m 16).length) (by
        rw [List.map_map]; exact hown)
      rw [runes_ascii (let_ m 16) (fun n hn => by have := hbd n hn; omega)] at hconv
      have hend := fun ty => Lib.run_next_end_at (P := Try.prog) wr (w.heap.size + 1) LET 16 ty IT.out (by rw [LET_size]; omega)
      have OW := Lib.hid hown
      clear hown hbd
      go_wp2_with fail
      go_ret2
      exact ⟨rfl, hbw⟩
set_option maxHeartbeats 400000 in
theorem rtext_no (m : Int) (w : World) (h : maskOk m = false) :
    Calls Try.prog 77 #[.int .i64 m] w fun e w' => e = .returned (.tuple #[.string ⟨#[]⟩, .bool false]) ∧ w = w' := by
  have MK := Lib.hid h
  clear h
  go_enter Try.func77, Try.ntmps77
  go_wp2_with fail
  refine (isMask_is _ false _ MK.out).mono ?_
  rintro e w1 ⟨rfl, rfl⟩
  go_wp2_with fail
  go_ret2
  exact ⟨rfl, rfl⟩
theorem rtext_any (m : Int) (w : World) :
    Calls Try.prog 77 #[.int .i64 m] w fun e w' => e = .returned (.tuple #[.string (textS m), .bool (maskOk m)]) ∧ Below w.heap.size w w' := by
  cases h : maskOk m
  · refine (rtext_no m w h).mono ?_
    rintro e w' ⟨rfl, rfl⟩
    exact ⟨by unfold textS; rw [h]; rfl, Below.refl _ _⟩
  · have h' := h
    simp only [maskOk, decide_eq_true_eq] at h'
    obtain ⟨n, rfl⟩ := Int.eq_ofNat_of_zero_le h'.1
    refine (rtext_yes n w (by omega)).mono ?_
    rintro e w' ⟨rfl, hb⟩
    exact ⟨by unfold textS; rw [h]; rfl, hb⟩
set_option linter.unusedVariables false
theorem pc_and_or (k x y : Nat) : pc k (x &&& y) + pc k (x ||| y) = pc k x + pc k y := by
  induction k generalizing x y with
  | zero => rfl
  | succ k ih =>
    have h1 : (x &&& y) / 2 = x / 2 &&& y / 2 := Nat.and_div_two_pow (n := 1)
    have h2 : (x ||| y) / 2 = x / 2 ||| y / 2 := Nat.or_div_two_pow (n := 1)
    have h3 : (x &&& y) % 2 = x % 2 &&& y % 2 := Nat.and_mod_two_pow (n := 1)
    have h4 : (x ||| y) % 2 = x % 2 ||| y % 2 := Nat.or_mod_two_pow (n := 1)
    have h5 : (x % 2 &&& y % 2) + (x % 2 ||| y % 2) = x % 2 + y % 2 := by
      rcases Nat.mod_two_eq_zero_or_one x with h | h <;> rcases Nat.mod_two_eq_zero_or_one y with h' | h' <;> rw [h, h'] <;> rfl
    have := ih (x / 2) (y / 2)
    simp only [pc, h1, h2, h3, h4]
    omega
theorem maskOk_nat (n : Nat) (h : n ≤ 65535) : maskOk (n : Int) = true := by simp [maskOk]; omega
set_option linter.unusedVariables false
theorem let_count (m k : Nat) : (let_ m k).length = pc k m := by
  induction k with
  | zero => rfl
  | succ k ih =>
    simp only [let_, pc_succ]
    rcases (show m / 2 ^ k % 2 = 0 ∨ m / 2 ^ k % 2 = 1 by omega) with h | h
    · rw [if_neg (by omega), ih, h]; rfl
    · rw [if_pos h, List.length_append, ih, h]; rfl
theorem mod_succ (m k : Nat) : m % 2 ^ (k + 1) = m % 2 ^ k + m / 2 ^ k % 2 * 2 ^ k := by
  rw [Nat.pow_succ, Nat.mod_mul]
  rw [Nat.mul_comm]
theorem let_fold (m k : Nat) (hk : k ≤ 16) : pfold ((let_ m k).map UInt8.ofNat) 0 = some (m % 2 ^ k) := by
  induction k with
  | zero => simp [let_, pfold, Nat.mod_one]
  | succ k ih =>
    have hp : 0 < 2 ^ k := Nat.pow_pos (by decide)
    simp only [let_]
    rw [mod_succ]
    rcases (show m / 2 ^ k % 2 = 0 ∨ m / 2 ^ k % 2 = 1 by omega) with h | h
    · rw [if_neg (by omega), ih (by omega), h]; simp
    · rw [if_pos h, List.map_append, pfold_append, ih (by omega), h]
      have hlt := Nat.mod_lt m hp
      have hc : (UInt8.ofNat (97 + k)).toNat = 97 + k := by rw [UInt8.toNat_ofNat']; omega
      have hb : (m % 2 ^ k) &&& 2 ^ k = 0 := by
        rw [nat_bit, Nat.div_eq_of_lt hlt]; simp
      have := pstep_yes (m := m % 2 ^ k) (c := UInt8.ofNat (97 + k)) k hc (by omega) hb
      show pfold [UInt8.ofNat (97 + k)] (m % 2 ^ k) = _
      simp only [pfold, this]
      rw [Nat.or_comm, nat_join k (2 ^ k) (m % 2 ^ k) (by simp) hlt]
      congr 1
      omega
theorem pc_zero (k : Nat) : pc k 0 = 0 := by
  induction k with
  | zero => rfl
  | succ k ih => simp [pc, ih]
theorem pc_pow : ∀ j : Fin 16, pc 16 (2 ^ j.val) = 1 := by decide
theorem pstep_count {m m' : Nat} {c : UInt8} (h : pstep m c = some m') : pc 16 m' = pc 16 m + 1 := by
  unfold pstep at h
  split at h
  · rename_i hc
    cases h
    have h1 := pc_and_or 16 m (2 ^ (c.toNat - 97))
    have h2 : m &&& 2 ^ (c.toNat - 97) = 0 := by rw [nat_bit, hc.2.2]; simp
    have h3 := pc_pow ⟨c.toNat - 97, by omega⟩
    simp only at h3
    rw [h2, pc_zero, h3] at h1
    omega
  · cases h
theorem fold_count (l : List UInt8) (m n : Nat) (hm : m < 65536) (h : pfold l m = some n) : n < 65536 ∧ pc 16 n = pc 16 m + l.length := by
  induction l generalizing m with
  | nil => simp only [pfold, Option.some.injEq] at h; subst h; exact ⟨hm, by rw [List.length_nil, Nat.add_zero]⟩
  | cons c l ih =>
    simp only [pfold] at h
    split at h
    · rename_i m' hs
      have := ih m' (pstep_lt hm hs) h
      have h2 := pstep_count hs
      simp only [List.length_cons]
      exact ⟨this.1, by omega⟩
    · cases h
/-- What a mask's letters are. -/
theorem textS_size (m : Nat) (hm : m ≤ 65535) : (textS (m : Int)).size = pc 16 m := by
  unfold textS
  rw [maskOk_nat m hm]
  simp only [if_true, Int.toNat_natCast]
  rw [Str_size, List.length_map, let_count]
theorem textS_par (m : Nat) (hm : m ≤ 65535) : parN (textS (m : Int)) = (m : Int) ∧ parB (textS (m : Int)) = true := by
  have e : pfold (textS (m : Int)).data.toList 0 = some m := by
    unfold textS
    rw [maskOk_nat m hm]
    simp only [if_true, Int.toNat_natCast]
    rw [Str_list, let_fold m 16 (by omega), Nat.mod_eq_of_lt (by simp; omega)]
  simp [parN, parB, e]
/-- What is read of a text. -/
theorem par_facts (s : ByteArray) : (parB s = false ∧ parN s = 0) ∨ (∃ n : Nat, n ≤ 65535 ∧ parB s = true ∧ parN s = (n : Int) ∧ pc 16 n = s.size) := by
  cases h : pfold s.data.toList 0 with
  | none => exact .inl ⟨by simp [parB, h], by simp [parN, h]⟩
  | some n =>
    have := fold_count _ 0 n (by omega) h
    rw [pc_zero, size_list] at this
    exact .inr ⟨n, by omega, by simp [parB, h], by simp [parN, h], by omega⟩
end Go.Proofs.Ytemhlhcaahaecaa
