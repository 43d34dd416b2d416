/-
  Package bailiwicklaw06: a sector of a text, round and round.
-/
import Derived.Test.YteaiiiikehimgaaDiskL
namespace Go.Proofs.Yteaiiiikehimgaa
open Go.RowKit
set_option linter.unusedVariables false
set_option linter.unusedSimpArgs false
/-- A text, round and round. -/
def fillT (s : List UInt8) : List UInt8 := if s.length = 0 then zs else (List.range 256).map fun i => s.getD (i % s.length) 0
theorem fillT_len (s : List UInt8) : (fillT s).length = 256 := by
  unfold fillT
  split
  · exact zs_len
  · simp
def fillTo (s : List UInt8) (n : Nat) : List UInt8 := (fillT s).take n ++ List.replicate (256 - n) 0
theorem fillTo_len (s : List UInt8) (n : Nat) (h : n ≤ 256) : (fillTo s n).length = 256 := by
  unfold fillTo
  rw [List.length_append, List.length_take, fillT_len, List.length_replicate]
  omega
theorem fillTo_zero (s : List UInt8) : fillTo s 0 = List.replicate 256 0 := by unfold fillTo; rw [List.take_zero, List.nil_append]
theorem fillTo_all (s : List UInt8) : fillTo s 256 = fillT s := by
  unfold fillTo
  rw [List.take_of_length_le (by rw [fillT_len]; exact Nat.le_refl _)]
  exact List.append_nil _
theorem fillTo_set (s : List UInt8) (n : Nat) (h : n < 256) (h0 : s.length ≠ 0) (b : UInt8) (hb : s.getD (n % s.length) 0 = b) : (fillTo s n).set n b = fillTo s (n + 1) := by
  unfold fillTo
  rw [List.set_append_right _ _ (by rw [List.length_take, fillT_len]; omega), List.length_take, fillT_len, Nat.min_eq_left (by omega), Nat.sub_self]
  have e : List.replicate (256 - n) (0 : UInt8) = 0 :: List.replicate (256 - (n + 1)) 0 := by
    rw [← List.replicate_succ]
    congr 1
    omega
  rw [e, List.set_cons_zero]
  have e2 : (fillT s).take (n + 1) = (fillT s).take n ++ [b] := by
    rw [List.take_succ_eq_append_getElem (by rw [fillT_len]; omega)]
    congr 2
    have : (fillT s)[n]? = some b := by
      unfold fillT
      rw [if_neg h0, List.getElem?_map, List.getElem?_range h]
      simp only [Option.map_some, hb]
    rw [List.getElem?_eq_getElem (by rw [fillT_len]; omega)] at this
    exact Option.some.inj this
  rw [e2, List.append_assoc]
  rfl
set_option maxHeartbeats 800000 in
set_option maxRecDepth 20000 in
theorem fill_is (s : ByteArray) (w : World) (hs : s.size ≤ 9223372036854775807) (t : ByteArray) (ht : Hid (Str (fillT s.data.toList) = t)) :
    Calls Try.prog 14 #[.string s] w fun e w' => e = .returned (.string t) ∧ Below w.heap.size w w' := by
  obtain ⟨w2, hmk, hrow, hbel⟩ := made_bytes w 256 256 (Nat.le_refl _) (by decide)
  have hmk' : (Instr.makeSlice 39 (.int .i64 256) (.int .i64 256)).run Try.prog w = .ok (.slice (some ⟨w.heap.size, 0, none⟩) 256 256) w2 := hmk
  have hll := size_list s
  by_cases h0 : s.size = 0
  · have hcv := hrow.conv 256 256 (by simp)
    have e : Str ((List.replicate 256 (0 : UInt8)).take 256) = t := by
      rw [← ht.out]
      unfold fillT
      rw [if_pos (by omega)]
      unfold zs
      rw [List.take_of_length_le (by rw [List.length_replicate]; exact Nat.le_refl _)]
    rw [e] at hcv
    clear hmk hrow ht hll e
    go_enter Try.func14, Try.ntmps14
    go_wp2_with fail
    go_loopw [4] (fun i wr => i = .int .i64 0 ∧ wr = w2) (fun _ _ => 0)
    case atStart => exact ⟨rfl, rfl⟩
    case round =>
      obtain ⟨rfl, rfl⟩ := hrel
      go_wp2_with fail
      go_ret
      exact ⟨rfl, hbel⟩
  · have HT := Lib.hid ht
    have HR : Hid (Byt 5 w2 w.heap.size (fillTo s.data.toList 0)) := Lib.hid (by rw [fillTo_zero]; exact hrow)
    have HB := Lib.hid hbel
    have hp : 0 < (s.size : Int) := by omega
    clear hmk hrow hbel ht
    go_enter Try.func14, Try.ntmps14
    go_wp2_with fail
    go_loopw [4] (fun i wr => ∃ n : Nat, n ≤ 256 ∧ i = .int .i64 (n : Int) ∧ Hid (Byt 5 wr w.heap.size (fillTo s.data.toList n)) ∧ Hid (Below w.heap.size w wr)) (fun i _ => 257 - (intOf i).toNat)
    case atStart => exact ⟨0, by omega, rfl, HR, HB⟩
    case round =>
      obtain ⟨n, hn, rfl, HY, HBW⟩ := hrel
      by_cases hlt : n < 256
      · have hli : (n : Int) < 256 := by omega
        have hmod : (n : Int) % (s.size : Int) = ((n % s.size : Nat) : Int) := by omega
        have hml : n % s.size < s.size := Nat.mod_lt _ (by omega)
        obtain ⟨b, hb⟩ : ∃ b, s.data.toList.getD (n % s.data.toList.length) 0 = b := ⟨_, rfl⟩
        have hby : (s[n % s.size]'hml).toNat = b.toNat := by
          rw [← hb, hll, List.getD_eq_getElem?_getD, List.getElem?_eq_getElem (by rw [hll]; exact hml)]
          simp [ByteArray.getElem_eq_getElem_data]
        have FIN := Lib.hid (HY.out.set n b)
        rw [fillTo_set _ n hlt (by omega) b hb] at FIN
        have FB : Hid (Below w.heap.size w (wr.setCell ⟨w.heap.size, n, none⟩ (vb b))) := Lib.hid (HBW.out.setCell (Nat.le_refl _) _)
        have c9 : ∃ y, wr.cell? ⟨w.heap.size, n, none⟩ = some y := ⟨_, HY.out.cell n (by rw [fillTo_len _ _ hn]; exact hlt)⟩
        obtain ⟨y, c9⟩ := c9
        have f9 := HY.out.free n
        unfold vb at FIN FB
        have hmi : ((n % s.size : Nat) : Int) < (s.size : Int) := by omega
        generalize n % s.size = q at *
        generalize b.toNat = z at *
        clear HY HBW hb
        go_wp2_with fail
        go_roundw
        case rel => exact ⟨n + 1, by omega, by go_num, FIN, FB⟩
        case measure => simp [intOf]; omega
      · obtain rfl : n = 256 := by omega
        have hcv := HY.out.conv 256 256 (by rw [fillTo_len _ _ (Nat.le_refl _)]; exact Nat.le_refl _)
        rw [fillTo_all, List.take_of_length_le (by rw [fillT_len]; exact Nat.le_refl _), HT.out.out] at hcv
        go_wp2_with fail
        go_ret
        exact ⟨rfl, HBW.out⟩
end Go.Proofs.Yteaiiiikehimgaa
