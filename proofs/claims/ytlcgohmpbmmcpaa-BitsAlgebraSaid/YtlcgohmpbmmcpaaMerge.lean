/-
  merge, Join, Less.
-/
import Derived.Test.YtlcgohmpbmmcpaaMergeMath
import Derived.BigRegion
namespace Go.Proofs.Ytlcgohmpbmmcpaa
open Go.RowKit
set_option linter.unusedVariables false

set_option maxHeartbeats 400000 in
theorem joinF_any (x y : Nat) (w : World) (hx : x < 256) (hy : y < 256) :
    Calls Try.prog 28 #[.int .u8 (x : Int), .int .u8 (y : Int)] w fun e w' => e = .returned (.int .u8 ((x ||| y : Nat) : Int)) ∧ w = w' := by
  have H := u8_or_nat x y hx hy
  generalize x ||| y = z at *
  go_enter Try.func28, Try.ntmps28
  go_wp2_with fail
  go_ret
  exact ⟨rfl, rfl⟩
set_option maxHeartbeats 400000 in
theorem lessF_any (x y : Nat) (w : World) (hx : x < 256) (hy : y < 256) :
    Calls Try.prog 29 #[.int .u8 (x : Int), .int .u8 (y : Int)] w fun e w' => e = .returned (.int .u8 (lessN x y : Int)) ∧ w = w' := by
  have H := u8_less_nat x y hx hy
  generalize lessN x y = z at *
  go_enter Try.func29, Try.ntmps29
  go_wp2_with fail
  go_ret
  exact ⟨rfl, rfl⟩
/-- What a round meets, and leaves. -/
theorem merge_round (a b : ByteArray) (w : World) (g j : Nat) (f : Nat → Nat → Nat) (hf : ∀ x y, x < 256 → y < 256 → f x y < 256) (ha : j < a.size) (hb : j < b.size) (h : Buf w g (mergeK f a.data.toList b.data.toList j)) :
    ∃ (x y z : Nat), x < 256 ∧ y < 256 ∧ z < 256 ∧ (a[j]'ha).toNat = x ∧ (b[j]'hb).toNat = y ∧ f x y = z ∧ ∃ cv, w.cell? ⟨g, j, none⟩ = some cv ∧ w.frozen? ⟨g, j, none⟩ = false ∧ Buf (w.setCell ⟨g, j, none⟩ (.int .u8 (z : Int))).drew g (mergeK f a.data.toList b.data.toList (j + 1)) := by
  have hal : j < a.data.toList.length := by simpa using ha
  have hbl : j < b.data.toList.length := by simpa using hb
  have hml : j < (mergeK f a.data.toList b.data.toList j).length := by rw [mergeK_length]; exact hal
  have ea : (a.data.toList.getD j 0) = a[j]'ha := by
    rw [List.getD_eq_getElem?_getD, List.getElem?_eq_getElem hal]; simp [ByteArray.getElem_eq_getElem_data]
  have eb : (b.data.toList.getD j 0) = b[j]'hb := by
    rw [List.getD_eq_getElem?_getD, List.getElem?_eq_getElem hbl]; simp [ByteArray.getElem_eq_getElem_data]
  have hz := hf _ _ (UInt8.toNat_lt (a[j]'ha)) (UInt8.toNat_lt (b[j]'hb))
  refine ⟨_, _, _, UInt8.toNat_lt (a[j]'ha), UInt8.toNat_lt (b[j]'hb), hz, rfl, rfl, rfl, _, h.cell j hml, h.free j hml, ?_⟩
  have := h.put j _ hml hz
  rw [mergeK, ea, eb]
  exact this.drew
theorem merge_end (a b : ByteArray) (w : World) (g j : Nat) (f : Nat → Nat → Nat) (cap : Nat) (hj : j = min a.size b.size) (h : Buf w g (mergeK f a.data.toList b.data.toList j)) :
    (convert 35 9 (.slice (some ⟨g, 0, none⟩) a.size cap)).run Try.prog w = .ok (.string (mergeB f a b)) w := by
  have := h.conv cap
  rw [mergeK_length] at this
  have e : mergeL f a.data.toList b.data.toList = mergeK f a.data.toList b.data.toList j := by unfold mergeL; rw [hj]; simp
  unfold mergeB
  rw [e]
  simpa using this
set_option maxHeartbeats 1600000 in
theorem merge_join (a b : ByteArray) (w : World) (hs : a.size ≤ 140737488351232) (hs2 : b.size ≤ 140737488351232) :
    Calls Try.prog 27 #[.string a, .string b, .func (.func 28) #[] #[]] w fun e w' => e = .returned (.string (mergeB (· ||| ·) a b)) ∧ Below w.heap.size w w' := by
  obtain ⟨cap, w2, g, hbs, hB, hW, hg⟩ := Buf.opened w a
  have HB := Lib.hid hB
  clear hB
  rcases (Nat.lt_or_ge b.size a.size).symm with hcmp | hcmp
  · have hcmp' : (a.size : Int) ≤ (b.size : Int) := by omega
    go_enter Try.func27, Try.ntmps27
    go_wp2_with fail
    go_loopw [8, 16] (fun _ i wr => ∃ j : Nat, i = .int .i64 (j : Int) ∧ j ≤ a.size ∧ j ≤ b.size ∧ Hid (Buf wr g (mergeK (· ||| ·) a.data.toList b.data.toList j)) ∧ Below w.heap.size w wr) (fun _ i _ => a.size + 1 - (intOf i).toNat)
    case atStart => exact ⟨0, rfl, by omega, by omega, HB, hW⟩
    case round =>
      obtain ⟨j, rfl, hja, hjb, hbuf, hbw⟩ := hrel
      by_cases hlt : j < a.size
      · have hla : j < a.size := by omega
        have hlb : j < b.size := by omega
        have hli : (j : Int) < (a.size : Int) := by omega
        have hla' : (j : Int) < (a.size : Int) := by omega
        have hlb' : (j : Int) < (b.size : Int) := by omega
        obtain ⟨x, y, z, hx, hy, hz, hax, hby, hcall, cv, hc, hf, hnext⟩ := merge_round a b wr g j (· ||| ·) (fun x y hx hy => Nat.or_lt_two_pow (n := 8) hx hy) hla hlb hbuf.out
        have HX := Lib.hid hax
        have HY := Lib.hid hby
        have HZ := Lib.hid hcall
        have NX := Lib.hid hnext
        clear hax hby hcall hnext hlt
        go_wp2_with fail
        go_region_with (rw [HX.out, HY.out]; refine (joinF_any _ _ _ hx hy).mono ?_; rw [HZ.out]; rintro e w1 ⟨rfl, rfl⟩)
        all_goals
          go_wp2_with fail
          go_roundw
          case rel => exact ⟨j + 1, by go_num, by omega, by omega, NX, (hbw.setCell hg _).drew⟩
          case measure => simp [intOf]; omega
      · obtain rfl : j = a.size := by omega
        have hcv := merge_end a b wr g _ (· ||| ·) cap (by omega) hbuf.out
        go_wp2_with fail
        go_ret
        exact ⟨rfl, hbw⟩
  · have hcmp' : (b.size : Int) < (a.size : Int) := by omega
    go_enter Try.func27, Try.ntmps27
    go_wp2_with fail
    go_loopw [8, 16] (fun _ i wr => ∃ j : Nat, i = .int .i64 (j : Int) ∧ j ≤ a.size ∧ j ≤ b.size ∧ Hid (Buf wr g (mergeK (· ||| ·) a.data.toList b.data.toList j)) ∧ Below w.heap.size w wr) (fun _ i _ => a.size + 1 - (intOf i).toNat)
    case atStart => exact ⟨0, rfl, by omega, by omega, HB, hW⟩
    case round =>
      obtain ⟨j, rfl, hja, hjb, hbuf, hbw⟩ := hrel
      by_cases hlt : j < b.size
      · have hla : j < a.size := by omega
        have hlb : j < b.size := by omega
        have hli : (j : Int) < (b.size : Int) := by omega
        have hla' : (j : Int) < (a.size : Int) := by omega
        have hlb' : (j : Int) < (b.size : Int) := by omega
        obtain ⟨x, y, z, hx, hy, hz, hax, hby, hcall, cv, hc, hf, hnext⟩ := merge_round a b wr g j (· ||| ·) (fun x y hx hy => Nat.or_lt_two_pow (n := 8) hx hy) hla hlb hbuf.out
        have HX := Lib.hid hax
        have HY := Lib.hid hby
        have HZ := Lib.hid hcall
        have NX := Lib.hid hnext
        clear hax hby hcall hnext hlt
        go_wp2_with fail
        go_region_with (rw [HX.out, HY.out]; refine (joinF_any _ _ _ hx hy).mono ?_; rw [HZ.out]; rintro e w1 ⟨rfl, rfl⟩)
        all_goals
          go_wp2_with fail
          go_roundw
          case rel => exact ⟨j + 1, by go_num, by omega, by omega, NX, (hbw.setCell hg _).drew⟩
          case measure => simp [intOf]; omega
      · obtain rfl : j = b.size := by omega
        have hcv := merge_end a b wr g _ (· ||| ·) cap (by omega) hbuf.out
        go_wp2_with fail
        go_ret
        exact ⟨rfl, hbw⟩
set_option maxHeartbeats 1600000 in
theorem merge_less (a b : ByteArray) (w : World) (hs : a.size ≤ 140737488351232) (hs2 : b.size ≤ 140737488351232) :
    Calls Try.prog 27 #[.string a, .string b, .func (.func 29) #[] #[]] w fun e w' => e = .returned (.string (mergeB lessN a b)) ∧ Below w.heap.size w w' := by
  obtain ⟨cap, w2, g, hbs, hB, hW, hg⟩ := Buf.opened w a
  have HB := Lib.hid hB
  clear hB
  rcases (Nat.lt_or_ge b.size a.size).symm with hcmp | hcmp
  · have hcmp' : (a.size : Int) ≤ (b.size : Int) := by omega
    go_enter Try.func27, Try.ntmps27
    go_wp2_with fail
    go_loopw [8, 16] (fun _ i wr => ∃ j : Nat, i = .int .i64 (j : Int) ∧ j ≤ a.size ∧ j ≤ b.size ∧ Hid (Buf wr g (mergeK lessN a.data.toList b.data.toList j)) ∧ Below w.heap.size w wr) (fun _ i _ => a.size + 1 - (intOf i).toNat)
    case atStart => exact ⟨0, rfl, by omega, by omega, HB, hW⟩
    case round =>
      obtain ⟨j, rfl, hja, hjb, hbuf, hbw⟩ := hrel
      by_cases hlt : j < a.size
      · have hla : j < a.size := by omega
        have hlb : j < b.size := by omega
        have hli : (j : Int) < (a.size : Int) := by omega
        have hla' : (j : Int) < (a.size : Int) := by omega
        have hlb' : (j : Int) < (b.size : Int) := by omega
        obtain ⟨x, y, z, hx, hy, hz, hax, hby, hcall, cv, hc, hf, hnext⟩ := merge_round a b wr g j lessN (fun x y hx hy => lessN_lt x y hx) hla hlb hbuf.out
        have HX := Lib.hid hax
        have HY := Lib.hid hby
        have HZ := Lib.hid hcall
        have NX := Lib.hid hnext
        clear hax hby hcall hnext hlt
        go_wp2_with fail
        go_region_with (rw [HX.out, HY.out]; refine (lessF_any _ _ _ hx hy).mono ?_; rw [HZ.out]; rintro e w1 ⟨rfl, rfl⟩)
        all_goals
          go_wp2_with fail
          go_roundw
          case rel => exact ⟨j + 1, by go_num, by omega, by omega, NX, (hbw.setCell hg _).drew⟩
          case measure => simp [intOf]; omega
      · obtain rfl : j = a.size := by omega
        have hcv := merge_end a b wr g _ lessN cap (by omega) hbuf.out
        go_wp2_with fail
        go_ret
        exact ⟨rfl, hbw⟩
  · have hcmp' : (b.size : Int) < (a.size : Int) := by omega
    go_enter Try.func27, Try.ntmps27
    go_wp2_with fail
    go_loopw [8, 16] (fun _ i wr => ∃ j : Nat, i = .int .i64 (j : Int) ∧ j ≤ a.size ∧ j ≤ b.size ∧ Hid (Buf wr g (mergeK lessN a.data.toList b.data.toList j)) ∧ Below w.heap.size w wr) (fun _ i _ => a.size + 1 - (intOf i).toNat)
    case atStart => exact ⟨0, rfl, by omega, by omega, HB, hW⟩
    case round =>
      obtain ⟨j, rfl, hja, hjb, hbuf, hbw⟩ := hrel
      by_cases hlt : j < b.size
      · have hla : j < a.size := by omega
        have hlb : j < b.size := by omega
        have hli : (j : Int) < (b.size : Int) := by omega
        have hla' : (j : Int) < (a.size : Int) := by omega
        have hlb' : (j : Int) < (b.size : Int) := by omega
        obtain ⟨x, y, z, hx, hy, hz, hax, hby, hcall, cv, hc, hf, hnext⟩ := merge_round a b wr g j lessN (fun x y hx hy => lessN_lt x y hx) hla hlb hbuf.out
        have HX := Lib.hid hax
        have HY := Lib.hid hby
        have HZ := Lib.hid hcall
        have NX := Lib.hid hnext
        clear hax hby hcall hnext hlt
        go_wp2_with fail
        go_region_with (rw [HX.out, HY.out]; refine (lessF_any _ _ _ hx hy).mono ?_; rw [HZ.out]; rintro e w1 ⟨rfl, rfl⟩)
        all_goals
          go_wp2_with fail
          go_roundw
          case rel => exact ⟨j + 1, by go_num, by omega, by omega, NX, (hbw.setCell hg _).drew⟩
          case measure => simp [intOf]; omega
      · obtain rfl : j = b.size := by omega
        have hcv := merge_end a b wr g _ lessN cap (by omega) hbuf.out
        go_wp2_with fail
        go_ret
        exact ⟨rfl, hbw⟩
set_option maxHeartbeats 400000 in
theorem join_any (a b : ByteArray) (w : World) (hs : a.size ≤ 140737488351232) (hs2 : b.size ≤ 140737488351232) :
    Calls Try.prog 19 #[.string a, .string b] w fun e w' => e = .returned (.string (mergeB (· ||| ·) a b)) ∧ Below w.heap.size w w' := by
  go_enter Try.func19, Try.ntmps19
  go_wp2_with fail
  refine (merge_join a b _ hs hs2).mono ?_
  rintro e w1 ⟨rfl, bb⟩
  go_wp2_with fail
  go_ret
  exact ⟨rfl, bb⟩
set_option maxHeartbeats 400000 in
theorem less_any (a b : ByteArray) (w : World) (hs : a.size ≤ 140737488351232) (hs2 : b.size ≤ 140737488351232) :
    Calls Try.prog 21 #[.string a, .string b] w fun e w' => e = .returned (.string (mergeB lessN a b)) ∧ Below w.heap.size w w' := by
  go_enter Try.func21, Try.ntmps21
  go_wp2_with fail
  refine (merge_less a b _ hs hs2).mono ?_
  rintro e w1 ⟨rfl, bb⟩
  go_wp2_with fail
  go_ret
  exact ⟨rfl, bb⟩
end Go.Proofs.Ytlcgohmpbmmcpaa
