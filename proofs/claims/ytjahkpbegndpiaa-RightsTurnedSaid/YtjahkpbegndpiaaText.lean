/-
  Contracts of rights.Text and bailiwickref05.Text.
-/
import Derived.Test.YtjahkpbegndpiaaParse
import Derived.Test.YtjahkpbegndpiaaOwn
namespace Go.Proofs.Ytjahkpbegndpiaa
open Go.RowKit
set_option linter.unusedVariables false

/-- The numbers of the letters of m among the first k. -/
def let_ (m : Nat) : Nat → List Nat
  | 0 => []
  | k + 1 => if m / 2 ^ k % 2 = 1 then let_ m k ++ [97 + k] else let_ m k
theorem let_length (m k : Nat) : (let_ m k).length ≤ k := by
  induction k with
  | zero => simp [let_]
  | succ k ih =>
    simp only [let_]
    split
    · simp; omega
    · omega
theorem let_bd (m k : Nat) (hk : k ≤ 16) : ∀ n ∈ let_ m k, 97 ≤ n ∧ n < 97 + k := by
  induction k with
  | zero => simp [let_]
  | succ k ih =>
    intro n hn
    simp only [let_] at hn
    split at hn
    · rcases List.mem_append.1 hn with h | h
      · have := ih (by omega) n h; omega
      · simp at h; omega
    · have := ih (by omega) n hn; omega
def textS (m : Int) : ByteArray := if maskOk m then Str ((let_ m.toNat 16).map UInt8.ofNat) else ⟨#[]⟩

theorem info_i32 : (Try.prog.info? 21).map (fun i => (i.zero, i.size, i.bytes)) = some (some (.int .i32 0), 1, 4) := by kernel_rfl
theorem info_u8 : (Try.prog.info? 5).map (fun i => (i.zero, i.size, i.bytes)) = some (some (.int .u8 0), 1, 1) := by kernel_rfl

set_option maxHeartbeats 1000000 in
theorem refText_yes (m : Nat) (w : World) (hm : m ≤ 65535) :
    Calls Try.prog 11 #[.int .i64 (m : Int)] w fun e w' => e = .returned (.tuple #[.string (Str ((let_ m 16).map UInt8.ofNat)), .bool true]) ∧ Below w.heap.size w w' := by
  have MK := Lib.hid (show maskOk (m : Int) = true by simp [maskOk]; omega)
  obtain ⟨i0, hi, hz0, hz1, hz2⟩ := info_parts info_u8
  go_enter Try.func11, Try.ntmps11
  go_wp2_with fail
  refine (mask_is _ true _ MK.out).mono ?_
  rintro e w1 ⟨rfl, rfl⟩
  go_wp2_with fail
  go_loopw [4, 5] (fun v i wr => ∃ k : Nat, k ≤ 16 ∧ i = .int .i64 k ∧ wr.ownsRow w.heap.size 5 1 v (let_ m k).length ((let_ m k).map fun n => .int .u8 ((n : Nat) : Int)) ∧ Below w.heap.size w wr) (fun _ i _ => 16 - (intOf i).toNat)
  case atStart => exact ⟨0, by omega, rfl, World.ownsRow_nil _ _ _ _, Below.refl _ _⟩
  case round =>
    obtain ⟨k, hk, rfl, hown, hbw⟩ := hrel
    by_cases hlt : k < 16
    · have hq := bit_and m k hm
      have hlen := let_length m k
      rcases (show m / 2 ^ k % 2 = 0 ∨ m / 2 ^ k % 2 = 1 by omega) with h0 | h1
      · have EQ := Lib.hid (show let_ m (k + 1) = let_ m k by simp [let_, h0])
        rw [h0] at hq
        have OWN := Lib.hid hown
        clear h0 hown
        go_wp2_with fail
        go_roundw
        case rel => exact ⟨k + 1, by omega, by go_num, by rw [EQ.out]; exact OWN.out, hbw⟩
        case measure => simp [intOf]; omega
      · have EQ := Lib.hid (show let_ m (k + 1) = let_ m k ++ [97 + k] by simp [let_, h1])
        rw [h1] at hq
        have LT : w.heap.size ≤ wr.heap.size := hbw.size
        clear h1
        go_wp2_with (at_builtin; refine wpList_append_own _ rfl _ _ 33 rfl w.heap.size 5 i0 (.int .u8 0) 1 1 Try.underlying33 hi hz0 hz1 hz2 rfl (by decide) _ _ _ rfl (hown.alloc _) ⟨wr.heap.size, 0, none⟩ 1 1 [.int .u8 (97 + (k : Int))] rfl rfl ?c1 ?c2 ?c3 ?c4 ?c5 ?_)
        case c1 =>
          intro j u hj
          match j, hj with
          | 0, hj => simp at hj; subst hj; simp [Addr.add]
        case c2 => intro u hu; simp at hu; subst hu; rfl
        case c3 => unfold maxLen; omega
        case c4 => omega
        case c5 => simp; omega
        · intro v' w' hown' hgrow _
          have R : Hid (w'.ownsRow w.heap.size 5 1 v' (let_ m (k + 1)).length ((let_ m (k + 1)).map fun n => .int .u8 ((n : Nat) : Int))) := by
            rw [EQ.out, List.length_append, List.map_append]
            exact hown'
          have hb2 : Below w.heap.size w w' := (hbw.alloc LT _).grown hgrow (by simp; omega) (fun g hg => (hown.lt g hg).1)
          clear hown' hgrow hown hbw
          go_wp2_with fail
          go_roundw
          case rel => exact ⟨k + 1, by omega, by go_num, R.out, hb2⟩
          case measure => simp [intOf]; omega
    · obtain rfl : k = 16 := by omega
      have hbd := let_bd m 16 (by omega)
      have hconv := conv_bytes_own ((let_ m 16).map UInt8.ofNat) (w := wr) (base := w.heap.size) (v := u4) (n := (let_ m 16).length) (by
        rw [List.map_map]
        have e : (let_ m 16).map ((fun b : UInt8 => Value.int .u8 (b.toNat : Int)) ∘ UInt8.ofNat) = (let_ m 16).map fun n => .int .u8 ((n : Nat) : Int) := by
          apply List.map_congr_left
          intro n hn
          have := hbd n hn
          simp only [Function.comp, UInt8.toNat_ofNat']
          rw [Nat.mod_eq_of_lt (by omega)]
        rw [e]; exact hown)
      have OW := Lib.hid hown
      clear hown hbd
      go_wp2_with fail
      go_ret2
      exact ⟨rfl, hbw⟩

theorem make16 (w : World) : (Instr.makeSlice 37 (.int .i64 0) (.int .i64 16)).run Try.prog w = .ok (.slice (some ⟨w.heap.size, 0, none⟩) 0 16) (w.alloc (.cells (madeCells (Value.int .i32 0).cells 16) 21)) := by
  obtain ⟨i0, hi, hz0, hz1, hz2⟩ := info_parts info_i32
  have := run_make (P := Try.prog) w 37 21 i0 (.int .i32 0) Try.underlying37 hi hz0 .i64 .i64 0 16 (by omega) (by omega) (by rw [hz2]; omega) (by omega)
  rw [this, hz1]
  rfl
theorem next_at_let (w : World) (b k : Nat) (hk : k < 16) (ty : TypeId) (h : w.heap[b]? = some (.stringIter LET k)) :
    (Instr.next (.pointer (some ⟨b, 0, none⟩)) true ty).run Try.prog w = .ok (.tuple #[.bool true, .int .i64 k, .int .i32 ((97 : Int) + k)]) (w.iterAt b LET (k + 1)) := by
  have hl := LET_at ⟨k, hk⟩
  simp only at hl
  have := Lib.run_next_ascii_at (P := Try.prog) w b LET k ty h (by rw [LET_size]; exact hk) (by omega)
  rw [hl] at this
  exact this
set_option maxHeartbeats 1000000 in
theorem text_yes (m : Nat) (w : World) (hm : m ≤ 65535) :
    Calls Try.prog 10 #[.int .i64 (m : Int)] w fun e w' => e = .returned (.tuple #[.string (Str ((let_ m 16).map UInt8.ofNat)), .bool true]) ∧ Below w.heap.size w w' := by
  have MK := Lib.hid (show maskOk (m : Int) = true by simp [maskOk]; omega)
  obtain ⟨i0, hi, hz0, hz1, hz2⟩ := info_parts info_i32
  have hmk := make16
  have hM := Lib.hid (World.ownsRow_made (base := w.heap.size) (size := 1) (e := 21) w (madeCells (Value.int .i32 0).cells 16) 16 (Nat.le_refl _) (by unfold maxLen; omega) (by rw [size_madeCells]))
  go_enter Try.func10, Try.ntmps10
  go_wp2_with fail
  refine (isMask_is _ true _ MK.out).mono ?_
  rintro e w1 ⟨rfl, rfl⟩
  go_wp2_with fail
  go_loopw [4, 5, 6] (fun v _ _ wr => ∃ k : Nat, k ≤ 16 ∧ wr.ownsRow w.heap.size 21 1 v (let_ m k).length ((let_ m k).map fun n => .int .i32 ((n : Nat) : Int)) ∧ wr.heap[w.heap.size + 1]? = some (.stringIter LET k) ∧ Below w.heap.size w wr) (fun _ _ _ wr => 16 - wr.iterPos (w.heap.size + 1))
  case atStart =>
    have h1 := World.iter_heap (w.alloc (.cells (madeCells #[.int .i32 0] 16) 21)) LET 0
    rw [show (w.alloc (.cells (madeCells #[.int .i32 0] 16) 21)).heap.size = w.heap.size + 1 by simp] at h1
    exact ⟨0, by omega, hM.out.alloc _, h1, ((Below.refl _ _).alloc (Nat.le_refl _) _).alloc (by simp) _⟩
  case round =>
    obtain ⟨k, hk, hown, hit, hbw⟩ := hrel
    have IT := Lib.hid hit
    have hsz : w.heap.size + 1 < wr.heap.size := (Array.getElem?_eq_some_iff.1 hit).1
    clear hit
    by_cases hlt : k < 16
    · have hnext := fun ty => next_at_let wr (w.heap.size + 1) k hlt ty IT.out
      have it2 := Lib.hid (Lib.iterAt_heap wr (w.heap.size + 1) LET k (k + 1) IT.out)
      have hown2 := own_iterAt hown IT.out (k + 1)
      have hbw2 : Below w.heap.size w (wr.iterAt (w.heap.size + 1) LET (k + 1)) := Lib.below_iterAt hbw (by omega) LET (k + 1)
      have hsz2 : w.heap.size + 1 < (wr.iterAt (w.heap.size + 1) LET (k + 1)).heap.size := by rw [Lib.iterAt_size]; exact hsz
      have hq := bit_and m k hm
      have hlen := let_length m k
      have IP := Lib.hid (iterPos_of IT.out)
      clear hown hbw
      rcases (show m / 2 ^ k % 2 = 0 ∨ m / 2 ^ k % 2 = 1 by omega) with h0 | h1
      · have EQ := Lib.hid (show let_ m (k + 1) = let_ m k by simp [let_, h0])
        rw [h0] at hq
        have OWN := Lib.hid hown2
        clear h0 hown2
        go_wp2_with fail
        go_roundw
        case rel => exact ⟨k + 1, by omega, by rw [EQ.out]; exact OWN.out, it2.out, hbw2⟩
        case measure => rw [IP.out, iterPos_of it2.out]; omega
      · have EQ := Lib.hid (show let_ m (k + 1) = let_ m k ++ [97 + k] by simp [let_, h1])
        rw [h1] at hq
        clear h1
        have OWN := Lib.hid hown2
        clear hown2
        generalize hg : wr.iterAt (w.heap.size + 1) LET (k + 1) = wi at *
        have G := Lib.hid hg
        clear hg
        go_wp2_with (at_builtin; refine wpList_append_own _ rfl _ _ 37 rfl w.heap.size 21 i0 (.int .i32 0) 1 4 Try.underlying37 hi hz0 hz1 hz2 rfl (by decide) _ _ _ rfl (OWN.out.alloc _) ⟨wi.heap.size, 0, none⟩ 1 1 [.int .i32 (97 + (k : Int))] rfl rfl ?c1 ?c2 ?c3 ?c4 ?c5 ?_)
        case c1 =>
          intro j u hj
          match j, hj with
          | 0, hj => simp at hj; subst hj; simp [Addr.add]
        case c2 => intro u hu; simp at hu; subst hu; rfl
        case c3 => unfold maxLen; omega
        case c4 => omega
        case c5 => simp; omega
        · intro v' w' hown' hgrow _
          have R : Hid (w'.ownsRow w.heap.size 21 1 v' (let_ m (k + 1)).length ((let_ m (k + 1)).map fun n => .int .i32 ((n : Nat) : Int))) := by
            rw [EQ.out, List.length_append, List.map_append]
            exact hown'
          have hb2 : Below w.heap.size w w' := (hbw2.alloc (by omega) _).grown hgrow (by simp; omega) (fun g hg => (OWN.out.lt g hg).1)
          have it3 : Hid (w'.heap[w.heap.size + 1]? = some (.stringIter LET (k + 1))) :=
            iter_kept (OWN.out.alloc _) hgrow ((Below.heap_alloc wi _ _ hsz2).trans it2.out)
          clear hown' hgrow hbw2
          go_wp2_with fail
          go_roundw
          case rel => exact ⟨k + 1, by omega, R.out, it3.out, hb2⟩
          case measure => rw [IP.out, iterPos_of it3.out]; omega
    · obtain rfl : k = 16 := by omega
      have hbd := let_bd m 16 (by omega)
      have hconv := conv_runes_own ((let_ m 16).map fun (n : Nat) => (n : Int)) (w := wr) (base := w.heap.size) (n := (let_ m 16).length) (by
        rw [List.map_map]; exact hown)
      rw [runes_ascii (let_ m 16) (fun n hn => by have := hbd n hn; omega)] at hconv
      have hend := fun ty => Lib.run_next_end_at (P := Try.prog) wr (w.heap.size + 1) LET 16 ty IT.out (by rw [LET_size]; omega)
      have OW := Lib.hid hown
      clear hown hbd
      go_wp2_with fail
      go_ret2
      exact ⟨rfl, hbw⟩

set_option maxHeartbeats 400000 in
theorem text_no (m : Int) (w : World) (h : maskOk m = false) :
    Calls Try.prog 10 #[.int .i64 m] w fun e w' => e = .returned (.tuple #[.string ⟨#[]⟩, .bool false]) ∧ w = w' := by
  have MK := Lib.hid h
  clear h
  go_enter Try.func10, Try.ntmps10
  go_wp2_with fail
  refine (isMask_is _ false _ MK.out).mono ?_
  rintro e w1 ⟨rfl, rfl⟩
  go_wp2_with fail
  go_ret2
  exact ⟨rfl, rfl⟩
set_option maxHeartbeats 400000 in
theorem refText_no (m : Int) (w : World) (h : maskOk m = false) :
    Calls Try.prog 11 #[.int .i64 m] w fun e w' => e = .returned (.tuple #[.string ⟨#[]⟩, .bool false]) ∧ w = w' := by
  have MK := Lib.hid h
  clear h
  go_enter Try.func11, Try.ntmps11
  go_wp2_with fail
  refine (mask_is _ false _ MK.out).mono ?_
  rintro e w1 ⟨rfl, rfl⟩
  go_wp2_with fail
  go_ret2
  exact ⟨rfl, rfl⟩
theorem text_any (m : Int) (w : World) :
    Calls Try.prog 10 #[.int .i64 m] w fun e w' => e = .returned (.tuple #[.string (textS m), .bool (maskOk m)]) ∧ Below w.heap.size w w' := by
  cases h : maskOk m
  · refine (text_no m w h).mono ?_
    rintro e w' ⟨rfl, rfl⟩
    exact ⟨by unfold textS; rw [h]; rfl, Below.refl _ _⟩
  · have h' := h
    simp only [maskOk, decide_eq_true_eq] at h'
    obtain ⟨n, rfl⟩ := Int.eq_ofNat_of_zero_le h'.1
    refine (text_yes n w (by omega)).mono ?_
    rintro e w' ⟨rfl, hb⟩
    exact ⟨by unfold textS; rw [h]; rfl, hb⟩
theorem refText_any (m : Int) (w : World) :
    Calls Try.prog 11 #[.int .i64 m] w fun e w' => e = .returned (.tuple #[.string (textS m), .bool (maskOk m)]) ∧ Below w.heap.size w w' := by
  cases h : maskOk m
  · refine (refText_no m w h).mono ?_
    rintro e w' ⟨rfl, rfl⟩
    exact ⟨by unfold textS; rw [h]; rfl, Below.refl _ _⟩
  · have h' := h
    simp only [maskOk, decide_eq_true_eq] at h'
    obtain ⟨n, rfl⟩ := Int.eq_ofNat_of_zero_le h'.1
    refine (refText_yes n w (by omega)).mono ?_
    rintro e w' ⟨rfl, hb⟩
    exact ⟨by unfold textS; rw [h]; rfl, hb⟩
end Go.Proofs.Ytjahkpbegndpiaa
