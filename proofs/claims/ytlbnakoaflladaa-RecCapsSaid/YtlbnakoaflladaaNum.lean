/-
  Contracts of package num: Put, Take, Text, TakeText.
-/
import Derived.Test.YtlbnakoaflladaaSup
namespace Go.Proofs.Ytlbnakoaflladaa
open Go.RowKit
set_option linter.unusedVariables false

set_option maxHeartbeats 400000 in
theorem sizeRight_yes (a : Int) (w : World) (h1 : 1 ≤ a) (h2 : a ≤ 8) :
    Calls Try.prog 65 #[.int .i64 a] w fun e w' => e = .returned (.bool true) ∧ w = w' := by
  go_enter Try.func65, Try.ntmps65
  go_wp2
  go_ret
  simp
set_option maxHeartbeats 400000 in
theorem sizeRight_no (a : Int) (w : World) (h : ¬ (1 ≤ a ∧ a ≤ 8)) :
    Calls Try.prog 65 #[.int .i64 a] w fun e w' => e = .returned (.bool false) ∧ w = w' := by
  have h' : a < 1 ∨ 8 < a := by omega
  clear h
  rcases h' with h | h
  all_goals
    go_enter Try.func65, Try.ntmps65
    go_wp2
    go_ret
    simp
  omega

set_option maxHeartbeats 400000 in
theorem fits_any (n : Int) (size : Int) (b : Bool) (w : World) (h1 : 1 ≤ size) (h8 : size ≤ 8) (hb : (n / 2 ^ (8 * size).toNat == 0) = b) :
    Calls Try.prog 66 #[.int .u64 n, .int .i64 size] w fun e w' => e = .returned (.bool b) ∧ w = w' := by
  have e1 : min (8 * size).toNat 64 = (8 * size).toNat := by omega
  have H := Lib.hid hb
  clear hb
  go_enter Try.func66, Try.ntmps66
  go_wp2
  go_ret
  exact ⟨by rw [← H.out]; rfl, rfl⟩

def putArr (n : Int) (size : Nat) : Nat → Array Value
  | 0 => #[.int .u8 0, .int .u8 0, .int .u8 0, .int .u8 0, .int .u8 0, .int .u8 0, .int .u8 0, .int .u8 0]
  | k + 1 => (putArr n size k).setIfInBounds (size - 1 - k) (.int .u8 (n / 2 ^ (8 * k) % 256))
theorem putArr_size (n : Int) (size k : Nat) : (putArr n size k).size = 8 := by
  induction k with
  | zero => rfl
  | succ k ih => simp [putArr, ih]
theorem putArr_at (n : Int) (size k j : Nat) (hj : j < 8) : ∃ v, (putArr n size k)[j]? = some v :=
  ⟨(putArr n size k)[j]'(by rw [putArr_size]; omega), Array.getElem?_eq_getElem _⟩
theorem putArr_get (n : Int) (size k j : Nat) (hs : size ≤ 8) (hk : k ≤ size) (hj : j < size) (hjk : size - 1 - j < k) :
    (putArr n size k)[j]? = some (.int .u8 (n / 2 ^ (8 * (size - 1 - j)) % 256)) := by
  induction k with
  | zero => omega
  | succ k ih =>
    rw [putArr]
    by_cases e : j = size - 1 - k
    · have ek : size - 1 - j = k := by omega
      rw [ek, ← e, Array.getElem?_setIfInBounds_self_of_lt (by rw [putArr_size]; omega)]
    · rw [Array.getElem?_setIfInBounds_ne (by omega)]
      exact ih (by omega) (by omega)
theorem byte_of (n : Nat) (k : Nat) : ((UInt8.ofNat (n / 256 ^ k % 256)).toNat : Int) = (n : Int) / 2 ^ (8 * k) % 256 := by
  have e : (256 : Nat) ^ k = 2 ^ (8 * k) := by rw [Nat.pow_mul]
  rw [UInt8.toNat_ofNat', Nat.mod_mod_of_dvd _ (by decide), e, Int.natCast_emod, Int.natCast_ediv, Int.natCast_pow]
  rfl
theorem putArr_be (n : Nat) (size j : Nat) (hs : size ≤ 8) (hj : j < (M.be size n).length) :
    (putArr (n : Int) size size)[j]? = some (.int .u8 (((M.be size n)[j]).toNat : Int)) := by
  have hj' : j < size := by rwa [M.be_length] at hj
  rw [putArr_get _ _ _ _ hs (Nat.le_refl _) hj' (by omega)]
  have := M.be_get size n j hj'
  rw [List.getElem?_eq_getElem hj] at this
  rw [Option.some.inj this, byte_of]

theorem slice8 (a : Addr) (k : Nat) (hk : k ≤ 8) (W : World) : (Instr.sliceAt 100 (.pointer (some a)) none (some (.int .i64 (k : Int))) none).run Try.prog W = .ok (.slice (some a) k 8) W := by
  have hl : Try.prog.arrayLen 100 = 8 := by kernel_rfl
  have he : Try.prog.elem 100 = 5 := by kernel_rfl
  have hs : ∀ w, (sizeOf 5).run Try.prog w = .ok 1 w := fun w => by kernel_rfl
  have ht : Try.prog.underlying 100 = some (.array (Try.prog.arrayLen 100) (Try.prog.elem 100)) := by rw [hl, he]; exact Try.underlying100
  rw [run_sliceAt_array_h W _ a ht .i64 k (by omega) (by rw [hl]; omega), he, hs, hl]
  simp [Result.andThen, slicedAt, Addr.add]
def putOk (n size : Int) : Bool := decide (1 ≤ size ∧ size ≤ 8) && (n / 2 ^ (8 * size).toNat == 0)
/-- What Put answers. -/
def putL (n size : Int) : List UInt8 := if putOk n size = true then M.be size.toNat n.toNat else []
def putE (n size : Int) : Int := if putOk n size = true then 0 else 1

set_option maxHeartbeats 400000 in
theorem put_ok (m : Nat) (size : Nat) (w : World) (h1 : 1 ≤ size) (h8 : size ≤ 8) (hf : ((m : Int) / 2 ^ (8 * size) == 0) = true) :
    Calls Try.prog 61 #[.int .u64 (m : Int), .int .i64 size] w fun e w' => e = .returned (.tuple #[.string (Str (M.be size m)), .int .i64 0]) ∧ Below w.heap.size w w' := by
  have H := Lib.hid hf
  clear hf
  have hcells := fun j hj => putArr_be m size j h8 hj
  have hconv := run_convert_bytes_back (P := Try.prog) (w.alloc (.cells (putArr (m : Int) size size) 100)) 88 9 5 ⟨w.heap.size, 0, none⟩ 8 (M.be size m) Try.underlying88 Try.underlying5 Try.underlying9 (fun j hj => by
    have := hcells j hj
    rw [show (⟨w.heap.size, 0, none⟩ : Addr).add j = ⟨w.heap.size, j, none⟩ by unfold Addr.add; split <;> simp_all]
    rw [← this]; simp)
  rw [M.be_length] at hconv
  have HC := Lib.hid hconv
  clear hconv hcells
  generalize hn : (m : Int) = n at *
  have Hn := Lib.hid hn
  clear hn
  go_enter Try.func61, Try.ntmps61
  go_wp2_with (first | (go_at_call 65; refine (sizeRight_yes _ _ (by omega) (by omega)).mono ?_; rintro e w' ⟨rfl, rfl⟩) | (go_at_call 66; refine (fits_any _ _ true _ (by omega) (by omega) H.out).mono ?_; rintro e w' ⟨rfl, rfl⟩))
  go_loopw [7, 18] (fun _ i wr => ∃ k : Nat, k ≤ size ∧ i = .int .i64 k ∧ wr = w.alloc (.cells (putArr n size k) 100)) (fun _ i _ => size - (intOf i).toNat)
  case atStart => exact ⟨0, Nat.zero_le _, rfl, rfl⟩
  case round =>
    obtain ⟨k, hk, rfl, rfl⟩ := hrel
    by_cases hlt : k < size
    · obtain ⟨v, hv⟩ := putArr_at n size k (size - 1 - k) (by omega)
      go_wp2
      go_roundw
      case rel => exact ⟨k + 1, by omega, by go_num, rfl⟩
      case measure => simp [intOf]; omega
    · obtain rfl : k = size := by omega
      have hconv := HC.out
      have hsl := slice8 ⟨w.heap.size, 0, none⟩ k h8
      go_wp2
      go_ret2
      exact ⟨rfl, (Below.refl _ _).alloc (Nat.le_refl _) _⟩

set_option maxHeartbeats 400000 in
theorem put_size (n : Int) (size : Int) (w : World) (h : ¬ (1 ≤ size ∧ size ≤ 8)) :
    Calls Try.prog 61 #[.int .u64 n, .int .i64 size] w fun e w' => e = .returned (.tuple #[.string ⟨#[]⟩, .int .i64 1]) ∧ w = w' := by
  have H := Lib.hid h
  clear h
  go_enter Try.func61, Try.ntmps61
  go_wp2_with (first | (go_at_call 65; refine (sizeRight_no _ _ H.out).mono ?_; rintro e w' ⟨rfl, rfl⟩))
  go_ret2
  exact ⟨rfl, rfl⟩

set_option maxHeartbeats 400000 in
theorem put_wide (n : Int) (size : Int) (w : World) (h1 : 1 ≤ size) (h8 : size ≤ 8) (hf : (n / 2 ^ (8 * size).toNat == 0) = false) :
    Calls Try.prog 61 #[.int .u64 n, .int .i64 size] w fun e w' => e = .returned (.tuple #[.string ⟨#[]⟩, .int .i64 1]) ∧ w = w' := by
  have H := Lib.hid hf
  clear hf
  go_enter Try.func61, Try.ntmps61
  go_wp2_with (first | (go_at_call 65; refine (sizeRight_yes _ _ (by omega) (by omega)).mono ?_; rintro e w' ⟨rfl, rfl⟩) | (go_at_call 66; refine (fits_any _ _ false _ (by omega) (by omega) H.out).mono ?_; rintro e w' ⟨rfl, rfl⟩))
  go_ret2
  exact ⟨rfl, rfl⟩

/-- Put, whatever it is asked. -/
theorem put_any (n size : Int) (w : World) (h0 : 0 ≤ n) :
    Calls Try.prog 61 #[.int .u64 n, .int .i64 size] w fun e w' => e = .returned (.tuple #[.string (Str (putL n size)), .int .i64 (putE n size)]) ∧ Below w.heap.size w w' := by
  by_cases h : 1 ≤ size ∧ size ≤ 8
  · cases hf : (n / 2 ^ (8 * size).toNat == 0)
    · refine (put_wide n size w h.1 h.2 hf).mono ?_
      rintro e w' ⟨rfl, rfl⟩
      exact ⟨by simp [putL, putE, putOk, hf, Str], Below.refl _ _⟩
    · obtain ⟨m, rfl⟩ := Int.eq_ofNat_of_zero_le h0
      obtain ⟨s, rfl⟩ := Int.eq_ofNat_of_zero_le (show 0 ≤ size by omega)
      rw [show (8 * (s : Int)).toNat = 8 * s by omega] at hf
      refine (put_ok m s w (by omega) (by omega) hf).mono ?_
      rintro e w' ⟨rfl, hb⟩
      refine ⟨?_, hb⟩
      have hk : putOk (m : Int) (s : Int) = true := by
        simp only [putOk, show (8 * (s : Int)).toNat = 8 * s by omega, hf, Bool.and_true, decide_eq_true_eq]; exact h
      simp [putL, putE, hk]
  · refine (put_size n size w h).mono ?_
    rintro e w' ⟨rfl, rfl⟩
    exact ⟨by simp [putL, putE, putOk, h, Str], Below.refl _ _⟩
theorem put_yes (n size : Int) (w : World) (h0 : 0 ≤ n) (hk : putOk n size = true) :
    Calls Try.prog 61 #[.int .u64 n, .int .i64 size] w fun e w' => e = .returned (.tuple #[.string (Str (M.be size.toNat n.toNat)), .int .i64 0]) ∧ Below w.heap.size w w' := by
  have := put_any n size w h0
  simpa [putL, putE, hk] using this

theorem put_no (n size : Int) (w : World) (h0 : 0 ≤ n) (hk : putOk n size = false) :
    Calls Try.prog 61 #[.int .u64 n, .int .i64 size] w fun e w' => e = .returned (.tuple #[.string (Str []), .int .i64 1]) ∧ Below w.heap.size w w' := by
  have := put_any n size w h0
  simpa [putL, putE, hk] using this

def takeOk (b : ByteArray) (size : Int) : Bool := decide (1 ≤ size ∧ size ≤ 8) && decide (size ≤ b.size)
def takeN (b : ByteArray) (size : Int) : Int := if takeOk b size = true then (M.val (b.data.toList.take size.toNat) : Int) else 0
def takeR (b : ByteArray) (size : Int) : ByteArray := if takeOk b size = true then b.extract size.toNat b.size else ⟨#[]⟩
def takeE (b : ByteArray) (size : Int) : Int := if takeOk b size = true then 0 else if 1 ≤ size ∧ size ≤ 8 then 2 else 1

theorem wrap_nat (a : Nat) (h : a < 18446744073709551616) : IntKind.u64.wrap (a : Int) = (a : Int) := by
  rw [IntKind.wrap_u64]; exact Int.emod_eq_of_lt (Int.natCast_nonneg _) (Int.ofNat_lt.2 h)
theorem or_byte (v : Nat) (c : UInt8) (h : v * 256 + 255 < 18446744073709551616) :
    bits BinOp.or IntKind.u64 (IntKind.u64.wrap ((v : Int) * 256)) (IntKind.u64.wrap (c.toNat : Int)) = ((v * 256 + c.toNat : Nat) : Int) := by
  have hc : c.toNat < 256 := c.toNat_lt
  have h1 : v * 256 < 18446744073709551616 := Nat.lt_of_le_of_lt (Nat.le_add_right _ _) h
  have h2 : c.toNat < 18446744073709551616 := Nat.lt_of_lt_of_le hc (by decide)
  have h3 : v * 256 % 2 ^ 8 = 0 := by simp
  have h4 : c.toNat < 2 ^ 8 := by simp; omega
  have e1 : IntKind.u64.wrap ((v : Int) * 256) = ((v * 256 : Nat) : Int) := wrap_nat _ h1
  have e2 : IntKind.u64.wrap (c.toNat : Int) = (c.toNat : Int) := wrap_nat _ h2
  rw [e1, e2, u64_or_nat (v * 256) c.toNat h1 h2, nat_join 8 (v * 256) c.toNat h3 h4]
theorem val_step (b : ByteArray) (k : Nat) (h : k < b.size) : M.val (b.data.toList.take (k + 1)) = M.val (b.data.toList.take k) * 256 + b[k].toNat := by
  rw [List.take_succ_eq_append_getElem (by simpa using h), M.val_snoc]; rfl
theorem val_room (b : ByteArray) (k : Nat) (h : k ≤ 7) : M.val (b.data.toList.take k) * 256 + 255 < 18446744073709551616 := by
  have h1 := M.val_lt (b.data.toList.take k)
  have h2 : 256 ^ (b.data.toList.take k).length ≤ 256 ^ 7 := Nat.pow_le_pow_right (by decide) (by simp; omega)
  have h3 : (256 : Nat) ^ 7 = 72057594037927936 := by simp
  rw [h3] at h2
  generalize M.val (b.data.toList.take k) = v at *
  generalize 256 ^ (b.data.toList.take k).length = u at *
  omega

set_option maxHeartbeats 400000 in
theorem take_ok (b : ByteArray) (size : Nat) (w : World) (h1 : 1 ≤ size) (h8 : size ≤ 8) (hl : size ≤ b.size) :
    Calls Try.prog 55 #[.string b, .int .i64 size] w fun e w' => e = .returned (.tuple #[.int .u64 (M.val (b.data.toList.take size)), .string (b.extract size b.size), .int .i64 0]) ∧ Below w.heap.size w w' := by
  have ht : decide (b.size < size) = false := by simp; omega
  go_enter Try.func55, Try.ntmps55
  go_wp2_with (first | (go_at_call 65; refine (sizeRight_yes _ _ (by omega) (by omega)).mono ?_; rintro e w' ⟨rfl, rfl⟩))
  go_loop [4, 7, 16] (fun n _ i => ∃ k : Nat, k ≤ size ∧ i = .int .i64 k ∧ n = .int .u64 (M.val (b.data.toList.take k))) (fun _ _ i => size - (intOf i).toNat)
  case atStart => exact ⟨0, Nat.zero_le _, rfl, rfl⟩
  case round =>
    obtain ⟨k, hk, rfl, rfl⟩ := hrel
    by_cases hlt : k < size
    · go_wp2
      go_round
      case rel => exact ⟨k + 1, by omega, by go_num, by rw [val_step b k (by omega), ← or_byte _ _ (val_room b k (by omega))]⟩
      case measure => simp [intOf]; omega
    · obtain rfl : k = size := by omega
      go_wp2
      go_region
      all_goals go_wp2
      all_goals go_ret3
      all_goals exact ⟨rfl, (Below.refl _ _).drew⟩
set_option maxHeartbeats 400000 in
theorem take_size (b : ByteArray) (size : Int) (w : World) (h : ¬ (1 ≤ size ∧ size ≤ 8)) :
    Calls Try.prog 55 #[.string b, .int .i64 size] w fun e w' => e = .returned (.tuple #[.int .u64 0, .string ⟨#[]⟩, .int .i64 1]) ∧ w = w' := by
  have H := Lib.hid h
  clear h
  go_enter Try.func55, Try.ntmps55
  go_wp2_with (first | (go_at_call 65; refine (sizeRight_no _ _ H.out).mono ?_; rintro e w' ⟨rfl, rfl⟩))
  go_ret3
  exact ⟨rfl, rfl⟩
set_option maxHeartbeats 400000 in
theorem take_short (b : ByteArray) (size : Int) (w : World) (h1 : 1 ≤ size) (h8 : size ≤ 8) (hl : (b.size : Int) < size) :
    Calls Try.prog 55 #[.string b, .int .i64 size] w fun e w' => e = .returned (.tuple #[.int .u64 0, .string ⟨#[]⟩, .int .i64 2]) ∧ w = w' := by
  go_enter Try.func55, Try.ntmps55
  go_wp2_with (first | (go_at_call 65; refine (sizeRight_yes _ _ (by omega) (by omega)).mono ?_; rintro e w' ⟨rfl, rfl⟩))
  go_ret3
  exact ⟨rfl, rfl⟩
theorem take_any (b : ByteArray) (size : Int) (w : World) :
    Calls Try.prog 55 #[.string b, .int .i64 size] w fun e w' => e = .returned (.tuple #[.int .u64 (takeN b size), .string (takeR b size), .int .i64 (takeE b size)]) ∧ Below w.heap.size w w' := by
  by_cases h : 1 ≤ size ∧ size ≤ 8
  · by_cases hl : size ≤ b.size
    · have hk : takeOk b size = true := by simp [takeOk, h, hl]
      obtain ⟨s, rfl⟩ := Int.eq_ofNat_of_zero_le (show 0 ≤ size by omega)
      refine (take_ok b s w (by omega) (by omega) (by omega)).mono ?_
      rintro e w' ⟨rfl, hb⟩
      exact ⟨by simp [takeN, takeR, takeE, hk], hb⟩
    · refine (take_short b size w h.1 h.2 (by omega)).mono ?_
      rintro e w' ⟨rfl, rfl⟩
      exact ⟨by simp [takeN, takeR, takeE, takeOk, h, hl], Below.refl _ _⟩
  · refine (take_size b size w h).mono ?_
    rintro e w' ⟨rfl, rfl⟩
    exact ⟨by simp [takeN, takeR, takeE, takeOk, h], Below.refl _ _⟩

theorem take_yes (b : ByteArray) (size : Int) (w : World) (hk : takeOk b size = true) :
    Calls Try.prog 55 #[.string b, .int .i64 size] w fun e w' => e = .returned (.tuple #[.int .u64 (M.val (b.data.toList.take size.toNat)), .string (b.extract size.toNat b.size), .int .i64 0]) ∧ Below w.heap.size w w' := by
  have := take_any b size w
  simpa [takeN, takeR, takeE, hk] using this

def textL (s : ByteArray) : ByteArray := if s.size ≤ 255 then Str (UInt8.ofNat s.size :: s.data.toList) else ⟨#[]⟩
def textE (s : ByteArray) : Int := if s.size ≤ 255 then 0 else 16
theorem put1 (n : Nat) (h : n ≤ 255) : putOk (n : Int) 1 = true := by simp [putOk]; omega
theorem be1 (n : Nat) (h : n ≤ 255) : M.be (1 : Int).toNat (n : Int).toNat = [UInt8.ofNat n] := by
  show [UInt8.ofNat (n % 256)] = _
  rw [Nat.mod_eq_of_lt (by omega)]
set_option maxHeartbeats 400000 in
theorem text_short (s : ByteArray) (w : World) (h : s.size ≤ 255) :
    Calls Try.prog 60 #[.string s] w fun e w' => e = .returned (.tuple #[.string (textL s), .int .i64 (textE s)]) ∧ Below w.heap.size w w' := by
  have ht : decide (255 < s.size) = false := by simp; omega
  have hp := Lib.hid (put1 s.size h)
  have hz : (Str (M.be (1 : Int).toNat (s.size : Int).toNat)).size = 1 := by rw [be1 _ h]; rfl
  have fin : Ending.returned (.tuple #[.string (Str (M.be (1 : Int).toNat (s.size : Int).toNat) ++ s), .int .i64 0]) = Ending.returned (.tuple #[.string (textL s), .int .i64 (textE s)]) := by
    rw [be1 _ h, Str_append]; simp [textL, textE, h]
  have F := Lib.hid fin
  clear fin
  generalize hg : Str (M.be (1 : Int).toNat (s.size : Int).toNat) = p at *
  have G := Lib.hid hg
  have hz1 : p.size ≤ 1 := by omega
  clear hg hz
  go_enter Try.func60, Try.ntmps60
  go_wp2_with (first | (go_at_call 61; refine (put_yes _ _ _ (by omega) hp.out).mono ?_; rw [G.out]; rintro e w1 ⟨rfl, hb⟩))
  go_ret2
  exact ⟨F.out, by assumption⟩
set_option maxHeartbeats 400000 in
theorem text_long (s : ByteArray) (w : World) (h : 255 < s.size) :
    Calls Try.prog 60 #[.string s] w fun e w' => e = .returned (.tuple #[.string (textL s), .int .i64 (textE s)]) ∧ Below w.heap.size w w' := by
  have fin : Ending.returned (.tuple #[.string ⟨#[]⟩, .int .i64 16]) = Ending.returned (.tuple #[.string (textL s), .int .i64 (textE s)]) := by
    simp [textL, textE, show ¬ s.size ≤ 255 by omega]
  have F := Lib.hid fin
  clear fin
  go_enter Try.func60, Try.ntmps60
  go_wp2
  go_ret2
  exact ⟨F.out, Below.refl _ _⟩
theorem text_any (s : ByteArray) (w : World) :
    Calls Try.prog 60 #[.string s] w fun e w' => e = .returned (.tuple #[.string (textL s), .int .i64 (textE s)]) ∧ Below w.heap.size w w' := by
  by_cases h : s.size ≤ 255
  · exact text_short s w h
  · exact text_long s w (by omega)

def ttN (s : ByteArray) : Nat := M.val (s.data.toList.take (1 : Int).toNat)
def ttB (s : ByteArray) : ByteArray := s.extract (1 : Int).toNat s.size
def ttOk (s : ByteArray) : Bool := decide (1 ≤ s.size) && decide (ttN s ≤ (ttB s).size)
def ttS (s : ByteArray) : ByteArray := if ttOk s = true then (ttB s).extract 0 (ttN s) else ⟨#[]⟩
def ttR (s : ByteArray) : ByteArray := if ttOk s = true then (ttB s).extract (ttN s) (ttB s).size else ⟨#[]⟩
def ttE (s : ByteArray) : Int := if ttOk s = true then 0 else 2
set_option maxHeartbeats 400000 in
theorem takeText_none (s : ByteArray) (w : World) (h : s.size = 0) :
    Calls Try.prog 53 #[.string s] w fun e w' => e = .returned (.tuple #[.string ⟨#[]⟩, .string ⟨#[]⟩, .int .i64 2]) ∧ Below w.heap.size w w' := by
  have H := Lib.hid h
  clear h
  go_enter Try.func53, Try.ntmps53
  go_wp2_with (first | (go_at_call 55; refine (take_short _ _ _ (by omega) (by omega) (by rw [H.out]; decide)).mono ?_; rintro e w1 ⟨rfl, rfl⟩))
  go_ret3
  exact ⟨rfl, Below.refl _ _⟩
set_option maxHeartbeats 400000 in
theorem takeText_short (s r : ByteArray) (n : Nat) (w : World) (hn : M.val (s.data.toList.take (1 : Int).toNat) = n) (hr : s.extract (1 : Int).toNat s.size = r) (hk : takeOk s 1 = true) (hx : r.size < n) (_hb : n < 256) :
    Calls Try.prog 53 #[.string s] w fun e w' => e = .returned (.tuple #[.string ⟨#[]⟩, .string ⟨#[]⟩, .int .i64 2]) ∧ Below w.heap.size w w' := by
  have H := Lib.hid hn
  have R := Lib.hid hr
  have K := Lib.hid hk
  have ht : decide (r.size < n) = true := by simp; omega
  clear hn hr hk
  go_enter Try.func53, Try.ntmps53
  go_wp2_with (first | (go_at_call 55; refine (take_yes _ _ _ K.out).mono ?_; rw [H.out, R.out]; rintro e w1 ⟨rfl, hb⟩))
  go_ret3
  exact ⟨rfl, by assumption⟩
set_option maxHeartbeats 400000 in
theorem takeText_ok (s r : ByteArray) (n : Nat) (w : World) (hn : M.val (s.data.toList.take (1 : Int).toNat) = n) (hr : s.extract (1 : Int).toNat s.size = r) (hk : takeOk s 1 = true) (hx : n ≤ r.size) (_hb : n < 256) (hm : r.size ≤ 9223372036854775807) :
    Calls Try.prog 53 #[.string s] w fun e w' => e = .returned (.tuple #[.string (r.extract 0 n), .string (r.extract n r.size), .int .i64 0]) ∧ Below w.heap.size w w' := by
  have H := Lib.hid hn
  have R := Lib.hid hr
  have K := Lib.hid hk
  have ht : decide (r.size < n) = false := by simp; omega
  clear hn hr hk
  go_enter Try.func53, Try.ntmps53
  go_wp2_with (first | (go_at_call 55; refine (take_yes _ _ _ K.out).mono ?_; rw [H.out, R.out]; rintro e w1 ⟨rfl, hb⟩))
  go_region
  all_goals go_wp2
  all_goals go_ret3
  all_goals exact ⟨rfl, hb.drew⟩
theorem take1_lt (s : ByteArray) : ttN s < 256 := by
  have h1 := M.val_lt (s.data.toList.take (1 : Int).toNat)
  have h2 : 256 ^ (s.data.toList.take (1 : Int).toNat).length ≤ 256 ^ 1 := Nat.pow_le_pow_right (by decide) (by simp; omega)
  unfold ttN
  omega
theorem takeText_any (s : ByteArray) (w : World) (hm : s.size ≤ 9223372036854775807) :
    Calls Try.prog 53 #[.string s] w fun e w' => e = .returned (.tuple #[.string (ttS s), .string (ttR s), .int .i64 (ttE s)]) ∧ Below w.heap.size w w' := by
  by_cases h : 1 ≤ s.size
  · have hk : takeOk s 1 = true := by simp [takeOk]; omega
    have hb := take1_lt s
    by_cases hx : ttN s ≤ (ttB s).size
    · have ho : ttOk s = true := by simp [ttOk, h, hx]
      refine (takeText_ok s (ttB s) (ttN s) w rfl rfl hk hx hb (by simp [ttB]; omega)).mono ?_
      rintro e w' ⟨rfl, hb⟩
      exact ⟨by simp [ttS, ttR, ttE, ho], hb⟩
    · refine (takeText_short s (ttB s) (ttN s) w rfl rfl hk (by omega) hb).mono ?_
      rintro e w' ⟨rfl, hb⟩
      exact ⟨by simp [ttS, ttR, ttE, ttOk, h, hx], hb⟩
  · refine (takeText_none s w (by omega)).mono ?_
    rintro e w' ⟨rfl, hb⟩
    exact ⟨by simp [ttS, ttR, ttE, ttOk, h], hb⟩
end Go.Proofs.Ytlbnakoaflladaa
