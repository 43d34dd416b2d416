/-
  The reader: spoil, wait, refuse, Next; Put.
-/
import Derived.Test.YtnbljpdfmomjjaaFrNext
import Derived.Outline
namespace Go.Proofs.Ytnbljpdfmomjjaa
open Go.RowKit
set_option linter.unusedVariables false

set_option maxHeartbeats 800000 in
theorem wait_any (p : Nat) (w : World) :
    Calls Try.prog 18 #[.pointer (some ⟨p, 0, none⟩)] w fun e w' => e = .returned (.tuple #[.string ⟨#[]⟩, .bool false, .int .i64 0]) ∧ w = w' := by
  go_enter Try.func18, Try.ntmps18
  go_wp2_with fail
  go_ret3
  exact ⟨rfl, rfl⟩
set_option maxHeartbeats 800000 in
theorem refuse_any (p : Nat) (w : World) :
    Calls Try.prog 20 #[.pointer (some ⟨p, 0, none⟩)] w fun e w' => e = .returned (.tuple #[.string ⟨#[]⟩, .bool false, .int .i64 6]) ∧ w = w' := by
  go_enter Try.func20, Try.ntmps20
  go_wp2_with fail
  go_ret3
  exact ⟨rfl, rfl⟩
set_option maxHeartbeats 800000 in
theorem spoil_any (lo p : Nat) (l : List UInt8) (w : World) (hlo : lo ≤ w.heap.size) (h : RB w lo p l false) :
    Calls Try.prog 21 #[.pointer (some ⟨p, 0, none⟩)] w fun e w' => e = .returned (.tuple #[.string ⟨#[]⟩, .bool false, .int .i64 16]) ∧ RB w' lo p [] true ∧ Below lo w w' := by
  obtain ⟨h0, v, hh, ho⟩ := h
  have HH := Lib.hid hh
  have c0 : w.cell? ⟨p, 0, none⟩ = some v := cell_of_row w p 0 _ _ _ hh
  have c1 : w.cell? ⟨p, 1, none⟩ = some (.bool false) := cell_of_row w p 1 _ _ _ hh
  have f0 := frozen_of_row w p 0 _ _ hh
  have f1 := frozen_of_row w p 1 _ _ hh
  clear hh ho
  go_enter Try.func21, Try.ntmps21
  go_wp2_with fail
  go_ret3
  have r1 : (w.setCell ⟨p, 0, none⟩ (.slice none 0 0)).heap[p]? = some (.cells #[.slice none 0 0, .bool false] 53 (0, 0)) := by
    rw [heap_setCell_same w p 0 _ _ _ HH.out]; rfl
  have r2 : ((w.setCell ⟨p, 0, none⟩ (.slice none 0 0)).setCell ⟨p, 1, none⟩ (.bool true)).heap[p]? = some (.cells #[.slice none 0 0, .bool true] 53 (0, 0)) := by
    rw [heap_setCell_same _ p 1 _ _ _ r1]; rfl
  exact ⟨rfl, ⟨h0, .slice none 0 0, r2, World.ownsRow_nil _ _ _ _⟩, ((Below.refl _ _).setCell h0 _).setCell h0 _⟩
set_option maxHeartbeats 1600000 in
theorem next_short (lo p : Nat) (l : List UInt8) (w : World) (h : RB w lo p l false) (hl : l.length < 2) :
    Calls Try.prog 12 #[.pointer (some ⟨p, 0, none⟩)] w fun e w' => e = .returned (.tuple #[.string ⟨#[]⟩, .bool false, .int .i64 0]) ∧ w = w' := by
  have H := Lib.hid h
  obtain ⟨h0, v, hh, ho⟩ := h
  have c1 : w.cell? ⟨p, 1, none⟩ = some (.bool false) := cell_of_row w p 1 _ _ _ hh
  clear hh ho
  go_enter Try.func12, Try.ntmps12
  go_wp2_with fail
  refine (size_short lo p l false _ H.out hl).mono ?_
  rintro e w1 ⟨rfl, rfl⟩
  go_wp2_with fail
  refine (wait_any p _).mono ?_
  rintro e w1 ⟨rfl, rfl⟩
  go_wp2_with fail
  go_ret3
  exact ⟨rfl, rfl⟩
set_option maxHeartbeats 1600000 in
theorem next_bad (lo p : Nat) (w : World) (h : RB w lo p [] true) :
    Calls Try.prog 12 #[.pointer (some ⟨p, 0, none⟩)] w fun e w' => e = .returned (.tuple #[.string ⟨#[]⟩, .bool false, .int .i64 6]) ∧ w = w' := by
  have H := Lib.hid h
  obtain ⟨h0, v, hh, ho⟩ := h
  have c1 : w.cell? ⟨p, 1, none⟩ = some (.bool true) := cell_of_row w p 1 _ _ _ hh
  clear hh ho
  go_enter Try.func12, Try.ntmps12
  go_wp2_with fail
  refine (size_short lo p [] true _ H.out (by decide)).mono ?_
  rintro e w1 ⟨rfl, rfl⟩
  go_wp2_with fail
  refine (refuse_any p _).mono ?_
  rintro e w1 ⟨rfl, rfl⟩
  go_wp2_with fail
  go_ret3
  exact ⟨rfl, rfl⟩
theorem RB.cells {w : World} {lo p : Nat} {l : List UInt8} {bad : Bool} (h : RB w lo p l bad) : ∃ a c, w.cell? ⟨p, 0, none⟩ = some (.slice a l.length c) ∧ w.cell? ⟨p, 1, none⟩ = some (.bool bad) := by
  obtain ⟨h0, v, hh, ho⟩ := h
  obtain ⟨a, c, rfl⟩ := own_shape ho
  exact ⟨a, c, cell_of_row w p 0 _ _ _ hh, cell_of_row w p 1 _ _ _ hh⟩
set_option maxHeartbeats 1600000 in
theorem next_wait (lo p : Nat) (l : List UInt8) (n : Nat) (w : World) (h : RB w lo p l false) (hl : 2 ≤ l.length) (hmax : l.length ≤ 1048576) (hn : Hid (M.val (l.take 2) = n)) (h200 : (n : Int) ≤ 200) (hlt : (l.length : Int) < 2 + (n : Int)) :
    Calls Try.prog 12 #[.pointer (some ⟨p, 0, none⟩)] w fun e w' => e = .returned (.tuple #[.string ⟨#[]⟩, .bool false, .int .i64 0]) ∧ RB w' lo p l false ∧ Below w.heap.size w w' := by
  have H := Lib.hid h
  clear h
  go_enter Try.func12, Try.ntmps12
  go_wp2_with fail
  refine (size_long lo p l false _ n H.out hl (by omega) hn).mono ?_
  rintro e w1 ⟨rfl, b1⟩
  have H1 := Lib.hid (H.out.below b1)
  have B1 := Lib.hid b1
  clear b1
  obtain ⟨a, c, c0, c1⟩ := H1.out.cells
  go_wp2_with fail
  refine (wait_any p _).mono ?_
  rintro e w2 ⟨rfl, rfl⟩
  go_wp2_with fail
  go_ret3
  exact ⟨rfl, H1.out, B1.out⟩
set_option maxHeartbeats 1600000 in
theorem next_spoil (lo p : Nat) (l : List UInt8) (n : Nat) (w : World) (hlo : lo ≤ w.heap.size) (h : RB w lo p l false) (hl : 2 ≤ l.length) (hmax : l.length ≤ 70368744177664) (hn : Hid (M.val (l.take 2) = n)) (h200 : 200 < (n : Int)) :
    Calls Try.prog 12 #[.pointer (some ⟨p, 0, none⟩)] w fun e w' => e = .returned (.tuple #[.string ⟨#[]⟩, .bool false, .int .i64 16]) ∧ RB w' lo p [] true ∧ Below lo w w' := by
  have H := Lib.hid h
  clear h
  go_enter Try.func12, Try.ntmps12
  go_wp2_with fail
  refine (size_long lo p l false _ n H.out hl (by omega) hn).mono ?_
  rintro e w1 ⟨rfl, b1⟩
  have H1 := Lib.hid (H.out.below b1)
  have B1 := Lib.hid (b1.mono hlo)
  have hlo1 : lo ≤ w1.heap.size := Nat.le_trans hlo b1.size
  clear b1
  obtain ⟨a, c, c0, c1⟩ := H1.out.cells
  go_wp2_with fail
  refine (spoil_any lo p l _ hlo1 H1.out).mono ?_
  rintro e w2 ⟨rfl, h2, b2⟩
  have H2 := Lib.hid h2
  have B2 := Lib.hid (B1.out.trans b2)
  clear h2 b2
  go_wp2_with fail
  go_ret3
  exact ⟨rfl, H2.out, B2.out⟩
set_option maxHeartbeats 1600000 in
theorem next_tell (lo p : Nat) (l : List UInt8) (n : Nat) (t : ByteArray) (w : World) (ht : Hid (Str ((l.drop 2).take n) = t)) (hlo : lo ≤ w.heap.size) (h : RB w lo p l false) (hl : 2 + n ≤ l.length) (hmax : l.length ≤ 1048576) (hrest : l.length < 2 + n + 202) (hn : Hid (M.val (l.take 2) = n)) (h200 : (n : Int) ≤ 200) :
    Calls Try.prog 12 #[.pointer (some ⟨p, 0, none⟩)] w fun e w' => e = .returned (.tuple #[.string t, .bool true, .int .i64 0]) ∧ RB w' lo p (l.drop (2 + n)) false ∧ Below lo w w' := by
  have H := Lib.hid h
  clear h
  have hli : 2 + (n : Int) ≤ (l.length : Int) := by omega
  go_enter Try.func12, Try.ntmps12
  go_wp2_with fail
  refine (size_long lo p l false _ n H.out (by omega) (by omega) hn).mono ?_
  rintro e w1 ⟨rfl, b1⟩
  have H1 := Lib.hid (H.out.below b1)
  have B1 := Lib.hid (b1.mono hlo)
  have hlo1 : lo ≤ w1.heap.size := Nat.le_trans hlo b1.size
  clear b1
  obtain ⟨a, c, c0, c1⟩ := H1.out.cells
  go_wp2_with fail
  refine (tell_any lo p l n _ hlo1 H1.out hn hl hmax hrest).mono ?_
  rw [ht.out]
  rintro e w2 ⟨rfl, h2, b2⟩
  have H2 := Lib.hid h2
  have B2 := Lib.hid (B1.out.trans b2)
  clear h2 b2
  go_wp2_with fail
  go_ret3
  exact ⟨rfl, H2.out, B2.out⟩
set_option maxHeartbeats 800000 in
theorem rest_any (lo p : Nat) (l : List UInt8) (bad : Bool) (w : World) (h : RB w lo p l bad) :
    Calls Try.prog 14 #[.pointer (some ⟨p, 0, none⟩)] w fun e w' => e = .returned (.int .i64 (l.length : Int)) ∧ w = w' := by
  obtain ⟨a, c, c0, c1⟩ := h.cells
  clear h
  go_enter Try.func14, Try.ntmps14
  go_wp2_with fail
  go_ret
  exact ⟨rfl, rfl⟩
set_option maxHeartbeats 800000 in
theorem bad_any (lo p : Nat) (l : List UInt8) (bad : Bool) (w : World) (h : RB w lo p l bad) :
    Calls Try.prog 15 #[.pointer (some ⟨p, 0, none⟩)] w fun e w' => e = .returned (.bool bad) ∧ w = w' := by
  obtain ⟨a, c, c0, c1⟩ := h.cells
  clear h
  go_enter Try.func15, Try.ntmps15
  go_wp2_with fail
  go_ret
  exact ⟨rfl, rfl⟩
/-- A text in its frame. -/
def frB (t : ByteArray) : ByteArray := Str (M.be 2 t.size) ++ t
theorem frB_size (t : ByteArray) : (frB t).size = t.size + 2 := by
  unfold frB; rw [ByteArray.size_append, Str_size, M.be_length]; omega
set_option maxHeartbeats 800000 in
theorem fput_long (t : ByteArray) (w : World) (h : 200 < (t.size : Int)) :
    Calls Try.prog 16 #[.string t] w fun e w' => e = .returned (.tuple #[.string ⟨#[]⟩, .int .i64 16]) ∧ w = w' := by
  go_enter Try.func16, Try.ntmps16
  go_wp2_with fail
  go_ret2
  exact ⟨rfl, rfl⟩
set_option maxHeartbeats 800000 in
theorem fput_good (t f : ByteArray) (w : World) (h : (t.size : Int) ≤ 200) (hf : Hid (frB t = f)) :
    Calls Try.prog 16 #[.string t] w fun e w' => e = .returned (.tuple #[.string f, .int .i64 0]) ∧ Below w.heap.size w w' := by
  have hp : Hid (putOk (t.size : Int) 2 = true) := Lib.hid (by simp [putOk]; omega)
  have hb : Hid (Str (M.be (2 : Int).toNat (t.size : Int).toNat) ++ t = f) := Lib.hid hf.out
  have hs : (Str (M.be (2 : Int).toNat (t.size : Int).toNat)).size = 2 := by rw [Str_size, M.be_length]; rfl
  have hsl : 2 + (t.size : Int) ≤ 9223372036854775807 := by omega
  go_enter Try.func16, Try.ntmps16
  go_wp2_with fail
  refine (put_yes _ _ _ (by omega) hp.out).mono ?_
  generalize Str (M.be (2 : Int).toNat (t.size : Int).toNat) = hd at *
  rintro e w2 ⟨rfl, b2⟩
  go_wp2_with fail
  rw [hb.out]
  go_ret2
  exact ⟨rfl, b2⟩
end Go.Proofs.Ytnbljpdfmomjjaa
