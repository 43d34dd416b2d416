/-
  The document's With.
-/
import Derived.Test.YtlcgohmpbmmcpaaBitsWith0
import Derived.Outline
namespace Go.Proofs.Ytlcgohmpbmmcpaa
open Go.RowKit
set_option linter.unusedVariables false

set_option maxHeartbeats 400000 in
theorem refWith_no (b : ByteArray) (i : Int) (on : Bool) (w : World) (hi : i < 9223372036854775808) (hr : Hid (roomB b i = false)) :
    Calls Try.prog 16 #[.string b, .int .i64 i, .bool on] w fun e w' => e = .returned (.string b) ∧ w = w' := by
  go_enter Try.func16, Try.ntmps16
  go_wp2_with fail
  refine (refRoom_any _ _ _ hi).mono ?_
  rw [hr.out]
  rintro e w1 ⟨rfl, rfl⟩
  go_wp2_with fail
  go_ret
  exact ⟨rfl, rfl⟩
set_option maxHeartbeats 800000 in
theorem refWith_yes (b : ByteArray) (n : Nat) (on : Bool) (w : World) (hi : n < 9223372036854775808) (hr : Hid (roomB b (n : Int) = true)) (hn : n / 8 < b.size) :
    Calls Try.prog 16 #[.string b, .int .i64 (n : Int), .bool on] w fun e w' => e = .returned (.string (withB b (n : Int) on)) ∧ Below w.heap.size w w' := by
  obtain ⟨cap, w2, g, hbs, hB, hW, hg⟩ := Buf.opened w b
  have hl : n / 8 < b.data.toList.length := by simpa using hn
  rw [withB_yes b n on hr.out hl]
  have hc := hB.cell (n / 8) hl
  have hf := hB.free (n / 8) hl
  have hlt := UInt8.toNat_lt (b.data.toList[n / 8])
  have hk : n % 8 < 8 := by omega
  generalize (b.data.toList[n / 8]).toNat = c at hc hlt ⊢
  have hA := or_xor ⟨c, hlt⟩ ⟨n % 8, hk⟩
  have hO := u8_or ⟨c, hlt⟩ ⟨n % 8, hk⟩
  have hx := setb_lt ⟨c, hlt⟩ ⟨n % 8, hk⟩ false
  have hy := setb_lt ⟨c, hlt⟩ ⟨n % 8, hk⟩ true
  have hm : (2 : Int) ^ (n % 8) % 256 = 2 ^ (n % 8) := by
    have := mask_wrap ⟨n % 8, hk⟩
    rwa [IntKind.wrap_u8] at this
  simp only [setb, if_true, Bool.false_eq_true, if_false] at hA hO hx hy
  have hr2 : ∀ on, setb c (n % 8) on = if on = true then c ||| 2 ^ (n % 8) else clr c (n % 8) := fun _ => rfl
  rw [hr2]
  generalize clr c (n % 8) = x at *
  generalize c ||| 2 ^ (n % 8) = y at *
  rw [← hm] at hA hO
  clear hm
  have hbl : b.data.toList.length = b.size := by simp
  obtain ⟨hb1, _⟩ := hB.stored (n / 8) y hl hy b.size cap (by simp)
  obtain ⟨hb2, _⟩ := hb1.stored (n / 8) x (by simpa using hl) hx b.size cap (by simp)
  have hcv1 := hb1.drew.conv cap
  have hcv2 := hb2.drew.drew.conv cap
  rw [List.length_set, hbl] at hcv1
  rw [List.length_set, List.length_set, hbl, List.set_set] at hcv2
  clear hB hb1 hb2 hr2 hbl
  have hn' : (n : Int) / 8 < (b.size : Int) := by omega
  cases on
  · go_enter Try.func16, Try.ntmps16
    go_wp2_with fail
    refine (refRoom_any _ _ _ (by omega)).mono ?_
    rw [hr.out]
    rintro e w1 ⟨rfl, rfl⟩
    go_wp2_with fail
    go_region
    go_wp2_with fail
    go_region
    go_wp2_with fail
    go_ret
    exact ⟨rfl, ((hW.setCell hg _).setCell hg _).drew.drew⟩
  · go_enter Try.func16, Try.ntmps16
    go_wp2_with fail
    refine (refRoom_any _ _ _ (by omega)).mono ?_
    rw [hr.out]
    rintro e w1 ⟨rfl, rfl⟩
    go_wp2_with fail
    go_region
    go_wp2_with fail
    go_ret
    exact ⟨rfl, (hW.setCell hg _).drew⟩
theorem refWith_any (b : ByteArray) (i : Int) (on : Bool) (w : World) (hi : i < 9223372036854775808) :
    Calls Try.prog 16 #[.string b, .int .i64 i, .bool on] w fun e w' => e = .returned (.string (withB b i on)) ∧ Below w.heap.size w w' := by
  by_cases h : 0 ≤ i ∧ i < 8 * (b.size : Int)
  · obtain ⟨n, rfl⟩ := Int.eq_ofNat_of_zero_le h.1
    exact refWith_yes b n on w (by omega) (Lib.hid (by unfold roomB; exact decide_eq_true h)) (by omega)
  · have hr : roomB b i = false := by unfold roomB; exact decide_eq_false h
    refine (refWith_no b i on w hi (Lib.hid hr)).mono ?_
    rintro e w' ⟨rfl, rfl⟩
    exact ⟨by unfold withB; rw [hr]; rfl, Below.refl _ _⟩
end Go.Proofs.Ytlcgohmpbmmcpaa
