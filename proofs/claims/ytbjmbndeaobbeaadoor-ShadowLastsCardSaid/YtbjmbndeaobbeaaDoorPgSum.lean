/-
  Package page: Adler's sum; its bytes.
-/
import Derived.Test.YtbjmbndeaobbeaaDoorPgSpec
namespace Go.Proofs.YtbjmbndeaobbeaaDoor
open Go.RowKit
set_option linter.unusedVariables false
set_option linter.unusedSimpArgs false
theorem adF_take (s : ByteArray) (k : Nat) (h : k < s.size) : adA (s.data.toList.take (k + 1)) = (adA (s.data.toList.take k) + s[k].toNat) % 65521 ∧ adB (s.data.toList.take (k + 1)) = (adB (s.data.toList.take k) + (adA (s.data.toList.take k) + s[k].toNat) % 65521) % 65521 := by
  have e : s.data.toList.take (k + 1) = s.data.toList.take k ++ [s[k]] := by
    rw [List.take_succ_eq_append_getElem (by simpa using h)]; rfl
  rw [e]
  unfold adA adB
  rw [adF_snoc]
  exact ⟨rfl, rfl⟩
theorem join16 (a b : Nat) (ha : a < 65521) (hb : b < 65521) : bits BinOp.or .u32 ((b : Int) * 65536) (a : Int) = ((b * 65536 + a : Nat) : Int) := by
  have h1 : ((b : Int) * 65536) = ((b * 65536 : Nat) : Int) := by omega
  rw [h1]
  have hx : (b * 65536) ||| a = b * 65536 + a := nat_join 16 (b * 65536) a (by omega) (by omega)
  have h32 : ∀ a : Nat, a < 4294967296 → (BitVec.ofInt 32 (a : Int)).toNat = a := fun a ha => by
    rw [BitVec.ofInt_natCast, BitVec.toNat_ofNat]; exact Nat.mod_eq_of_lt (by omega)
  show IntKind.u32.wrap ((BitVec.ofInt 32 ((b * 65536 : Nat) : Int) ||| BitVec.ofInt 32 (a : Int)).toNat : Int) = _
  rw [BitVec.toNat_or, h32 _ (by omega), h32 _ (by omega), hx, IntKind.wrap_u32]
  omega
theorem adF_hid (s : ByteArray) (k : Nat) (h : k < s.size) (a b x : Nat) (ha : adA (s.data.toList.take k) = a) (hb : adB (s.data.toList.take k) = b) (hx : s[k].toNat = x) :
    adA (s.data.toList.take (k + 1)) = (a + x) % 65521 ∧ adB (s.data.toList.take (k + 1)) = (b + (a + x) % 65521) % 65521 := by
  subst ha; subst hb; subst hx
  exact adF_take s k h
set_option maxHeartbeats 1600000 in
theorem pgSum_any (s : ByteArray) (w : World) (hs : s.size ≤ 9223372036854775807) (N : Nat) (HN : Hid (adS s.data.toList = N)) :
    Calls Tryd.prog 62 #[.string s] w fun e w' => e = .returned (.int .u32 (N : Int)) ∧ w = w' := by
  go_enter Tryd.func62, Tryd.ntmps62
  go_wp2_with fail
  go_loop [3, 4, 5, 8] (fun a b _ i => ∃ k A B : Nat, k ≤ s.size ∧ a = .int .u32 (A : Int) ∧ b = .int .u32 (B : Int) ∧ i = .int .i64 (k : Int) ∧ A < 65521 ∧ B < 65521 ∧ Hid (adA (s.data.toList.take k) = A) ∧ Hid (adB (s.data.toList.take k) = B)) (fun _ _ _ i => s.size + 1 - (intOf i).toNat)
  case atStart => exact ⟨0, 1, 0, Nat.zero_le _, rfl, rfl, rfl, by decide, by decide, Lib.hid (by simp; rfl), Lib.hid (by simp; rfl)⟩
  case round =>
    obtain ⟨k, A, B, hk, rfl, rfl, rfl, hA, hB, HA, HB⟩ := hrel
    by_cases hlt : k < s.size
    · obtain ⟨x, hx⟩ : ∃ x, s[k].toNat = x := ⟨_, rfl⟩
      have hx2 : x < 256 := by rw [← hx]; exact UInt8.toNat_lt _
      have F := Lib.hid (adF_hid s k hlt A B x HA.out HB.out hx)
      have FX := Lib.hid hx
      clear HA HB
      have hli : (k : Int) < (s.size : Int) := by omega
      go_wp2_with fail
      go_round
      case rel => exact ⟨k + 1, _, _, by omega, rfl, rfl, by go_num, Nat.mod_lt _ (by decide), Nat.mod_lt _ (by decide), Lib.hid F.out.1, Lib.hid F.out.2⟩
      case measure => simp [intOf]; omega
    · obtain rfl : k = s.size := by omega
      have HJ := Lib.hid (join16 A B hA hB)
      have HV : Hid (B * 65536 + A = N) := Lib.hid (by
        have e : s.data.toList.take s.size = s.data.toList := List.take_of_length_le (by simp)
        rw [← HN.out, ← HA.out, ← HB.out, e]; rfl)
      clear HA HB HN
      go_wp2_with fail
      go_ret
      exact ⟨by rw [HJ.out, HV.out]; rfl, rfl⟩
def fourArr (n : Nat) : Nat → Array Value
  | 0 => #[.int .u8 0, .int .u8 0, .int .u8 0, .int .u8 0]
  | 1 => #[.int .u8 ((n : Int) / 16777216), .int .u8 0, .int .u8 0, .int .u8 0]
  | 2 => #[.int .u8 ((n : Int) / 16777216), .int .u8 ((n : Int) / 65536 % 256), .int .u8 0, .int .u8 0]
  | 3 => #[.int .u8 ((n : Int) / 16777216), .int .u8 ((n : Int) / 65536 % 256), .int .u8 ((n : Int) / 256 % 256), .int .u8 0]
  | _ => #[.int .u8 ((n : Int) / 16777216), .int .u8 ((n : Int) / 65536 % 256), .int .u8 ((n : Int) / 256 % 256), .int .u8 ((n : Int) % 256)]
theorem four_cells (n j : Nat) (hn : n < 4294967296) (hj : j < (four n).length) : (fourArr n 4)[j]? = some (.int .u8 (((four n)[j]).toNat : Int)) := by
  rw [four_length] at hj
  have h : j = 0 ∨ j = 1 ∨ j = 2 ∨ j = 3 := by omega
  rcases h with rfl | rfl | rfl | rfl
  all_goals
    simp only [fourArr, four, List.getElem_cons_zero, List.getElem_cons_succ, UInt8.toNat_ofNat']
    simp
    try omega
set_option maxHeartbeats 1600000 in
set_option maxRecDepth 20000 in
theorem pgBytes_any (s : ByteArray) (w : World) (hs : s.size ≤ 9223372036854775807) (B : ByteArray) (HB : Hid (Str (four (adS s.data.toList)) = B)) :
    Calls Tryd.prog 55 #[.string s] w fun e w' => e = .returned (.string B) ∧ Below w.heap.size w w' := by
  obtain ⟨N, HN⟩ : ∃ N, Hid (adS s.data.toList = N) := ⟨_, Lib.hid rfl⟩
  have hN := adS_lt s.data.toList
  rw [HN.out] at hN
  have HB2 : Hid (Str (four N) = B) := Lib.hid (by rw [← HN.out]; exact HB.out)
  clear HB
  have hconv := run_convert_bytes_back (P := Tryd.prog) (w.alloc (.cells (fourArr N 4) 93)) 85 9 5 ⟨w.heap.size, 0, none⟩ 4 (four N) Tryd.underlying85 Tryd.underlying5 Tryd.underlying9 (fun j hj => by
    have := four_cells N j hN hj
    rw [show (⟨w.heap.size, 0, none⟩ : Addr).add j = ⟨w.heap.size, j, none⟩ by unfold Addr.add; split <;> simp_all]
    rw [← this]; simp)
  rw [four_length, show (⟨(four N).toArray⟩ : ByteArray) = B from HB2.out] at hconv
  have HC := Lib.hid hconv
  clear hconv
  go_enter Tryd.func55, Tryd.ntmps55
  go_wp2_with fail
  refine (pgSum_any s _ hs N HN).mono ?_
  rintro e w1 ⟨rfl, rfl⟩
  go_wp2_with fail
  go_loopw [5, 8] (fun _ i wr => ∃ k : Nat, k ≤ 4 ∧ i = .int .i64 k ∧ wr = w.alloc (.cells (fourArr N k) 93)) (fun _ i _ => 5 - (intOf i).toNat)
  case atStart => exact ⟨0, Nat.zero_le _, rfl, rfl⟩
  case round =>
    obtain ⟨k, hk, rfl, rfl⟩ := hrel
    have hc : k = 0 ∨ k = 1 ∨ k = 2 ∨ k = 3 ∨ k = 4 := by omega
    clear hk
    rcases hc with rfl | rfl | rfl | rfl | rfl
    case inr.inr.inr.inr =>
      have hconv := HC.out
      go_wp2_with fail
      go_ret
      exact ⟨rfl, (Below.refl _ _).alloc (Nat.le_refl _) _⟩
    all_goals
      go_wp2_with fail
      go_roundw
      case rel => first | exact ⟨1, by omega, rfl, rfl⟩ | exact ⟨2, by omega, rfl, rfl⟩ | exact ⟨3, by omega, rfl, rfl⟩ | exact ⟨4, by omega, rfl, rfl⟩
      case measure => simp [intOf]
end Go.Proofs.YtbjmbndeaobbeaaDoor
