/-
  The document's turned.
-/
import Derived.Test.YtglmepdgepjeiaaMac0
import Derived.Laws.MakeOwn
import Derived.Outline
namespace Go.Proofs.Ytglmepdgepjeiaa
open Go.RowKit
set_option linter.unusedVariables false

set_option maxHeartbeats 1600000 in
theorem refTurned_walk (key : ByteArray) (m : UInt8) (z : Int) (hzm : (m.toNat : Int) = z) (w : World) (hk : key.size ≤ 64) (L : List UInt8) (HL : Hid ((pad64 key.data.toList).map (· ^^^ m) = L)) :
    Calls Try.prog 17 #[.string key, .int .u8 z] w fun e w' => e = .returned (.string (Str L)) ∧ Below w.heap.size w w' := by
  subst hzm
  have hr := run_make (P := Try.prog) w 27 5 Try.t5 (.int .u8 0) Try.underlying27 (by kernel_rfl) (by kernel_rfl) .i64 .i64 64 64 (by omega) (by omega) (by decide) (by omega)
  have hmk : (Instr.makeSlice 27 (.int .i64 64) (.int .i64 64)).run Try.prog w = .ok (.slice (some ⟨w.heap.size, 0, none⟩) 64 64) (w.alloc (.cells (By (List.replicate 64 0)) 5)) := hr.trans (by
    have : madeCells (Value.int .u8 0).cells (Int.toNat 64 * (Try.t5).size) = By (List.replicate 64 0) := by kernel_rfl
    rw [this]
    rfl)
  clear hr
  have HZ : Hid (Byt 5 (w.alloc (.cells (By (List.replicate 64 0)) 5)) w.heap.size (List.replicate 64 0)) := Lib.hid (heap_alloc_new w _)
  have HB0 : Hid (Below w.heap.size w (w.alloc (.cells (By (List.replicate 64 0)) 5))) := Lib.hid ((Below.refl _ _).alloc (Nat.le_refl _) _)
  generalize hw1 : w.alloc (.cells (By (List.replicate 64 0)) 5) = w1 at *
  clear hw1
  have hl64 := Lib.hid (pad64_length key.data.toList (by simpa using hk))
  have HB1 := Lib.hid (below_setRow HB0.out (Nat.le_refl w.heap.size) (((By (List.replicate 64 0)).toList.take 0 ++ Lib.byteCells key.data.toList ++ (By (List.replicate 64 0)).toList.drop (0 + key.size)).toArray))
  have HT : Hid (Byt 5 (w1.setRow w.heap.size (((By (List.replicate 64 0)).toList.take 0 ++ Lib.byteCells key.data.toList ++ (By (List.replicate 64 0)).toList.drop (0 + key.size)).toArray)) w.heap.size (turnTo (pad64 key.data.toList) m 0)) := Lib.hid (by
    have h := setRow_heap w1 w.heap.size _ (((By (List.replicate 64 0)).toList.take 0 ++ Lib.byteCells key.data.toList ++ (By (List.replicate 64 0)).toList.drop (0 + key.size)).toArray) _ (0, 0) HZ.out
    rw [turnTo_zero]
    unfold Byt
    rw [h, copied key hk])
  have hcp := Lib.run_copy_row_string (P := Try.prog) w1 27 9 3 5 w.heap.size 0 64 64 key (By (List.replicate 64 0)) 5 Try.underlying27 (by kernel_rfl) HZ.out hk (by simp [By]; exact hk)
  generalize World.setRow _ _ _ = w2 at *
  go_enter Try.func17, Try.ntmps17
  go_wp2_with fail
  generalize hKEY : pad64 key.data.toList = KEY at *
  clear hKEY hk
  go_loopw [6] (fun i wr => ∃ n : Nat, n ≤ 64 ∧ i = .int .i64 (n : Int) ∧ Hid (Byt 5 wr w.heap.size (turnTo KEY m n)) ∧ Hid (Below w.heap.size w wr)) (fun i _ => 65 - (intOf i).toNat)
  case atStart => exact ⟨0, by omega, rfl, HT, HB1⟩
  case round =>
    obtain ⟨n, hn, rfl, HY, HB⟩ := hrel
    by_cases hlt : n < 64
    · have hli : (n : Int) < 64 := by omega
      have hnk : n < KEY.length := by rw [hl64.out]; exact hlt
      have hx : bits .xor .u8 (KEY[n].toNat : Int) (m.toNat : Int) = (((KEY[n] ^^^ m).toNat : Nat) : Int) := by
        rw [u8_xor_nat _ _ KEY[n].toNat_lt m.toNat_lt]; rfl
      have c9 := HY.out.cell n (by rw [turnTo_length]; exact hnk)
      have hget : (turnTo KEY m n)[n]'(by rw [turnTo_length]; exact hnk) = KEY[n] := by
        have := turnTo_get KEY m n hnk
        rw [List.getElem?_eq_getElem (by rw [turnTo_length]; exact hnk)] at this
        injection this
      rw [hget] at c9
      have f9 := HY.out.free n
      have FIN : Hid (Byt 5 (wr.setCell ⟨w.heap.size, n, none⟩ (.int .u8 (((KEY[n] ^^^ m).toNat : Nat) : Int))) w.heap.size (turnTo KEY m (n + 1))) := Lib.hid (by
        have := HY.out.set n (KEY[n] ^^^ m)
        rwa [turnTo_step KEY m n hnk] at this)
      have FB : Hid (Below w.heap.size w (wr.setCell ⟨w.heap.size, n, none⟩ (.int .u8 (((KEY[n] ^^^ m).toNat : Nat) : Int)))) := Lib.hid (HB.out.setCell (Nat.le_refl _) _)
      generalize (KEY[n] ^^^ m).toNat = y at *
      unfold vb at c9
      generalize KEY[n].toNat = x at *
      clear hget HY HB
      go_wp2_with fail
      go_roundw
      case rel => exact ⟨n + 1, by omega, by go_num, FIN, FB⟩
      case measure => simp [intOf]; omega
    · obtain rfl : n = 64 := by omega
      have hli : ¬ (((64 : Nat) : Int) < 64) := by omega
      have hcv : (convert 27 9 (.slice (some ⟨w.heap.size, 0, none⟩) 64 64)).run Try.prog wr = .ok (.string (Str L)) wr := by
        have h := HY.out
        rw [turnTo_all KEY m 64 (by rw [hl64.out]; exact Nat.le_refl _), HL.out] at h
        have hL : L.length = 64 := by rw [← HL.out, List.length_map, hl64.out]
        have := run_convert_bytes_back (P := Try.prog) wr 27 9 5 ⟨w.heap.size, 0, none⟩ 64 L Try.underlying27 Try.underlying5 Try.underlying9 (fun j hj => by
          rw [addr_add]; simpa [vb] using h.cell j hj)
        rw [hL] at this
        exact this
      go_wp2_with fail
      go_ret
      exact ⟨rfl, HB.out⟩
theorem refTurned_is (key : ByteArray) (m : UInt8) (z : Int) (hz : (m.toNat : Int) = z) (w : World) (hk : key.size ≤ 64) :
    Calls Try.prog 17 #[.string key, .int .u8 z] w fun e w' => e = .returned (.string (turnB key m)) ∧ Below w.heap.size w w' := refTurned_walk key m z hz w hk _ (Lib.hid rfl)
end Go.Proofs.Ytglmepdgepjeiaa
