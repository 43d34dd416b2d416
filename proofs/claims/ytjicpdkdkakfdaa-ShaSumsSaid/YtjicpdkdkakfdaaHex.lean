/-
  Hex.
-/
import Derived.Test.YtjicpdkdkakfdaaHexMath
namespace Go.Proofs.Ytjicpdkdkakfdaa
open Go.RowKit
set_option linter.unusedVariables false

set_option maxHeartbeats 1600000 in
theorem hex_walk (s : ByteArray) (w : World) (hz : s.size ≤ 70368744177664) (L : List UInt8) (HL : Hid (hexL s.data.toList = L)) :
    Calls Try.prog 10 #[.string s] w fun e w' => e = .returned (.string (Str L)) ∧ Below w.heap.size w w' := by
  obtain ⟨i0, hi, hz0, hz1, hz2⟩ := info_parts info_byte
  obtain ⟨wm, hmk, hown0, hgr⟩ := run_make_own (P := Try.prog) w w.heap.size 26 5 i0 (.int .u8 0) 1 Try.underlying26 hi hz0 hz1 .i64 .i64 (2 * s.size) (by rw [hz2]; omega) (by unfold maxLen; omega) (Nat.le_refl _)
  have HB0 : Hid (Below w.heap.size w wm) := Lib.hid ((Below.refl _ _).grown hgr (Nat.le_refl _) (fun k h => by cases h))
  have HO0 := Lib.hid hown0
  clear hown0 hgr
  go_enter Try.func10, Try.ntmps10
  generalize hS : (ByteArray.mk (List.toArray [48, 49, 50, 51, 52, 53, 54, 55, 56, 57, 97, 98, 99, 100, 101, 102])) = S
  have hT : S.size = 16 ∧ ∀ i : Fin 16, S.data.getD i.val 0 = digN i.val := by
    subst hS
    decide +kernel
  clear hS
  have hcast : ((2 * s.size : Nat) : Int) = 2 * (s.size : Int) := by omega
  rw [hcast] at hmk
  go_wp2_with fail
  go_loopw [3, 11] (fun v i wr => ∃ k : Nat, k ≤ s.size ∧ v = .slice (some ⟨w.heap.size, 0, none⟩) (2 * k) (2 * s.size) ∧ i = .int .i64 (k : Int) ∧ Hid (wr.ownsRow w.heap.size 5 1 (.slice (some ⟨w.heap.size, 0, none⟩) (2 * k) (2 * s.size)) (2 * k) ((hexL (s.data.toList.take k)).map vby)) ∧ Hid (Below w.heap.size w wr)) (fun _ i _ => s.size + 1 - (intOf i).toNat)
  case atStart => exact ⟨0, by omega, rfl, rfl, HO0, HB0⟩
  case round =>
    obtain ⟨k, hk, rfl, rfl, HO, HB⟩ := hrel
    by_cases hlt : k < s.size
    · have hli : (k : Int) < (s.size : Int) := by omega
      have hx15 := and15 s[k]
      have hdiv : (s[k].toNat : Int) / 16 = ((s[k].toNat / 16 : Nat) : Int) := by omega
      have hb1 : s[k].toNat / 16 < S.size := by have := s[k].toNat_lt; omega
      have hb2 : s[k].toNat % 16 < S.size := by omega
      have hS1 : S[s[k].toNat / 16] = digN (s[k].toNat / 16) := by
        have := hT.2 ⟨s[k].toNat / 16, by omega⟩
        rw [Array.getD_eq_getD_getElem?, Array.getElem?_eq_getElem (by simpa using hb1)] at this
        exact this
      have hS2 : S[s[k].toNat % 16] = digN (s[k].toNat % 16) := by
        have := hT.2 ⟨s[k].toNat % 16, by omega⟩
        rw [Array.getD_eq_getD_getElem?, Array.getElem?_eq_getElem (by simpa using hb2)] at this
        exact this
      have hstep : hexL (s.data.toList.take (k + 1)) = hexL (s.data.toList.take k) ++ [digN (s[k].toNat / 16), digN (s[k].toNat % 16)] := hexL_take _ _ (by simpa using hlt)
      have hST := Lib.hid hstep
      clear hstep
      obtain ⟨x, hx⟩ : ∃ x, s[k].toNat = x := ⟨_, rfl⟩
      have hx256 : x < 256 := by rw [← hx]; exact s[k].toNat_lt
      generalize digN (s[k].toNat / 16) = d1 at *
      generalize digN (s[k].toNat % 16) = d2 at *
      generalize s[k].toNat / 16 = q at *
      generalize s[k].toNat % 16 = r at *
      rw [hx] at hx15 hdiv
      have hq : (q : Int) < (S.size : Int) := by omega
      have hr : (r : Int) < (S.size : Int) := by omega
      have hsz := Lib.hid hT.1
      clear hT
      go_wp2_with fail
      go_region_law (refine step_append_spare rfl (.tmp 14) (.tmp 25) 26 rfl w.heap.size 5 i0 1 Try.underlying26 hi hz1 w.heap.size (2 * k) (2 * s.size) _ rfl (HO.out.alloc _) ⟨wr.heap.size, 0, none⟩ 2 2 [vby d1, vby d2] rfl rfl (two_cells wr d1 d2 _) (by intro u hu; simp at hu; rcases hu with rfl | rfl <;> rfl) (by omega) ?_; intro w' hown' hgrow)
      all_goals
        have HB2 : Hid (Below w.heap.size w w') := Lib.hid ((((HB.out.alloc HB.out.size _).drew)).grown hgrow (by have := HB.out.size; simp; omega) (fun g hg => by cases hg; exact Nat.le_refl _))
        have HO2 : Hid (w'.ownsRow w.heap.size 5 1 (.slice (some ⟨w.heap.size, 0, none⟩) (2 * (k + 1)) (2 * s.size)) (2 * (k + 1)) ((hexL (s.data.toList.take (k + 1))).map vby)) := Lib.hid (by rw [hST.out, List.map_append]; exact hown')
        clear hown' hgrow
        go_wp2_with fail
        go_roundw
        case rel => exact ⟨k + 1, by omega, rfl, by go_num, HO2, HB2⟩
        case measure => simp [intOf]; omega
    · obtain rfl : k = s.size := by omega
      have hli : ¬ ((s.size : Int) < (s.size : Int)) := by omega
      have hcv : (convert 26 9 (.slice (some ⟨w.heap.size, 0, none⟩) (2 * s.size) (2 * s.size))).run Try.prog wr = .ok (.string (Str L)) wr := by
        have hL : (hexL (s.data.toList.take s.size)) = L := by rw [List.take_of_length_le (by simp)]; exact HL.out
        have ho := HO.out
        rw [hL] at ho
        have hlen : L.length = 2 * s.size := by rw [← HL.out, hexL_length]; simp
        have := run_convert_bytes_back (P := Try.prog) wr 26 9 5 ⟨w.heap.size, 0, none⟩ (2 * s.size) L Try.underlying26 Try.underlying5 Try.underlying9 (fun j hj => ho.cells rfl j _ (by rw [List.getElem?_map, List.getElem?_eq_getElem hj]; rfl))
        rw [hlen] at this
        exact this
      go_wp2_with fail
      go_ret
      exact ⟨rfl, HB.out⟩
theorem hex_any (s : ByteArray) (w : World) (hz : s.size ≤ 70368744177664) :
    Calls Try.prog 10 #[.string s] w fun e w' => e = .returned (.string (Str (hexL s.data.toList))) ∧ Below w.heap.size w w' :=
  hex_walk s w hz _ (Lib.hid rfl)
theorem hex_is (s : ByteArray) (w : World) (hz : s.size ≤ 70368744177664) :
    Calls Try.prog 10 #[.string s] w fun e w' => e = .returned (.string (hexB s)) ∧ Below w.heap.size w w' := hex_any s w hz
end Go.Proofs.Ytjicpdkdkakfdaa
