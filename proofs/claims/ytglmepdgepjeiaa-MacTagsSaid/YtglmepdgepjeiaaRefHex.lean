/-
  The document's Hex.
-/
import Derived.Test.YtglmepdgepjeiaaHexMath
namespace Go.Proofs.Ytglmepdgepjeiaa
open Go.RowKit
set_option linter.unusedVariables false

set_option maxHeartbeats 1600000 in
theorem refHex_walk (s : ByteArray) (w : World) (hz : s.size ≤ 17592186044416) (L : List UInt8) (HL : Hid (hexL s.data.toList = L)) :
    Calls Try.prog 14 #[.string s] w fun e w' => e = .returned (.string (Str L)) ∧ Below w.heap.size w w' := by
  obtain ⟨i0, hi, hz0, hz1, hz2⟩ := info_parts info_byte
  go_enter Try.func14, Try.ntmps14
  generalize hS : (ByteArray.mk (List.toArray [48, 49, 50, 51, 52, 53, 54, 55, 56, 57, 97, 98, 99, 100, 101, 102])) = S
  have hT : S.size = 16 ∧ ∀ i : Fin 16, S.data.getD i.val 0 = digN i.val := by
    subst hS
    decide +kernel
  clear hS
  have hTT := Lib.hid hT
  clear hT
  go_wp2_with fail
  go_loopw [4, 5] (fun v i wr => ∃ k : Nat, k ≤ s.size ∧ i = .int .i64 (k : Int) ∧ Hid (wr.ownsRow w.heap.size 5 1 v (2 * k) ((hexL (s.data.toList.take k)).map vby)) ∧ Hid (Below w.heap.size w wr)) (fun _ i _ => s.size + 1 - (intOf i).toNat)
  case atStart => exact ⟨0, by omega, rfl, Lib.hid (World.ownsRow_nil _ _ _ _), Lib.hid (Below.refl _ _)⟩
  case round =>
    obtain ⟨k, hk, rfl, HO, HB⟩ := hrel
    by_cases hlt : k < s.size
    · have hli : (k : Int) < (s.size : Int) := by omega
      obtain ⟨x, q, r, d1, d2, hx, hx256, hdiv, hmod, hb1, hb2, hS1, hS2, hx15, hst⟩ := dig_round s S hTT.out k hlt
      have hST := Lib.hid hst
      have hq : (q : Int) < (S.size : Int) := by omega
      have hr : (r : Int) < (S.size : Int) := by omega
      have kq : IntKind.u8.wrap (q : Int) = (q : Int) := by rw [IntKind.wrap_u8]; omega
      have kr : IntKind.u8.wrap (r : Int) = (r : Int) := by rw [IntKind.wrap_u8]; omega
      have ktm : (x : Int).tmod 16 = (r : Int) := by rw [Int.tmod_eq_emod_of_nonneg (by omega)]; exact hmod
      clear hst hx15
      go_wp2_with fail
      go_region_law (refine step_append_own rfl (.tmp 12) (.tmp 25) 27 rfl w.heap.size 5 i0 (.int .u8 0) 1 1 Try.underlying27 hi hz0 hz1 hz2 rfl (by decide) _ (2 * k) _ rfl (HO.out.alloc _) ⟨wr.heap.size, 0, none⟩ 2 2 [vby d1, vby d2] rfl rfl (two_cells wr d1 d2 _) (by intro u hu; simp at hu; rcases hu with rfl | rfl <;> rfl) (by unfold maxLen; omega) (by omega) (by have := HB.out.size; simp; omega) ?_; intro v' w' hown' hgrow _)
      all_goals
        have HB2 : Hid (Below w.heap.size w w') := Lib.hid ((((HB.out.alloc HB.out.size _).drew)).grown hgrow (by have := HB.out.size; simp; omega) (fun g hg => (HO.out.lt g hg).1))
        have HO2 : Hid (w'.ownsRow w.heap.size 5 1 v' (2 * (k + 1)) ((hexL (s.data.toList.take (k + 1))).map vby)) := Lib.hid (by rw [hST.out, List.map_append]; exact hown')
        clear hown' hgrow
        go_wp2_with fail
        go_roundw
        case rel => exact ⟨k + 1, by omega, by go_num, HO2, HB2⟩
        case measure => simp [intOf]; omega
    · obtain rfl : k = s.size := by omega
      have hli : ¬ ((s.size : Int) < (s.size : Int)) := by omega
      have hcv := conv_bytes_own L (by
        have hL : (hexL (s.data.toList.take s.size)) = L := by rw [List.take_of_length_le (by simp)]; exact HL.out
        have ho := HO.out
        rw [hL] at ho
        exact ho)
      go_wp2_with fail
      go_ret
      exact ⟨rfl, HB.out⟩
theorem refHex_is (s : ByteArray) (w : World) (hz : s.size ≤ 17592186044416) :
    Calls Try.prog 14 #[.string s] w fun e w' => e = .returned (.string (hexB s)) ∧ Below w.heap.size w w' := refHex_walk s w hz _ (Lib.hid rfl)
end Go.Proofs.Ytglmepdgepjeiaa
