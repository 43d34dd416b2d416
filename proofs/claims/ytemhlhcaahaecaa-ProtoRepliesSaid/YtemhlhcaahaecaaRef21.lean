/-
  Package bailiwickref21: answers: it answers what proto answers.
-/
import Derived.Test.YtemhlhcaahaecaaReplyFacts
import Derived.Test.YtemhlhcaahaecaaRef01P
namespace Go.Proofs.Ytemhlhcaahaecaa
open Go.RowKit
set_option linter.unusedVariables false
set_option linter.unusedSimpArgs false
def inB (lo hi n : Int) : Bool := decide (lo ≤ n) && decide (n ≤ hi)
theorem inB_iff {lo hi n : Int} : inB lo hi n = true ↔ lo ≤ n ∧ n ≤ hi := by simp [inB]
set_option maxHeartbeats 400000 in
theorem refIn_is (n lo hi : Int) (v : Bool) (w : World) (hv : inB lo hi n = v) :
    Calls Try.prog 23 #[.int .i64 n, .int .i64 lo, .int .i64 hi] w fun e w' => e = .returned (.bool v) ∧ w = w' := by
  have H := Lib.hid hv
  clear hv
  by_cases h : lo ≤ n
  all_goals
    go_enter Try.func23, Try.ntmps23
    go_wp2
    go_ret
    refine ⟨?_, rfl⟩
    rw [← H.out]
    exact ret_bool (by rw [Bool.eq_iff_iff]; simp [inB]; omega)
set_option maxHeartbeats 400000 in
theorem refput_is (n size : Int) (x : ByteArray) (w : World) (h0 : 0 ≤ n) (h1 : n ≤ 9223372036854775807) (hx : Str (putL n size) = x) :
    Calls Try.prog 24 #[.int .i64 n, .int .i64 size] w fun e w' => e = .returned (.string x) ∧ Below w.heap.size w w' := by
  subst hx
  go_enter Try.func24, Try.ntmps24
  go_wp2_with fail
  refine (refPut_any _ _ _ (by omega) (by omega)).mono ?_
  rintro e w1 ⟨rfl, b1⟩
  go_wp2_with fail
  go_ret
  exact ⟨rfl, b1⟩
set_option maxHeartbeats 400000 in
theorem reftext_is (s x : ByteArray) (w : World) (hx : textL s = x) :
    Calls Try.prog 25 #[.string s] w fun e w' => e = .returned (.string x) ∧ Below w.heap.size w w' := by
  subst hx
  go_enter Try.func25, Try.ntmps25
  go_wp2_with fail
  refine (refText_any _ _).mono ?_
  rintro e w1 ⟨rfl, b1⟩
  go_wp2_with fail
  go_ret
  exact ⟨rfl, b1⟩
set_option maxHeartbeats 800000 in
theorem refReply_no (id code : Int) (body : ByteArray) (w : World) (hk : replyOk id code body = false) :
    Calls Try.prog 11 #[.int .i64 id, .int .i64 code, .string body] w fun e w' => e = .returned (.tuple #[.string ⟨#[]⟩, .bool false]) ∧ w = w' := by
  have hc : inB 0 4294967295 id = false ∨ (inB 0 4294967295 id = true ∧ inB 0 255 code = false) ∨ (inB 0 4294967295 id = true ∧ inB 0 255 code = true ∧ 100 < (body.size : Int)) := by
    cases h0 : inB 0 4294967295 id
    · exact .inl rfl
    · cases h1 : inB 0 255 code
      · exact .inr (.inl ⟨rfl, rfl⟩)
      · refine .inr (.inr ⟨rfl, rfl, ?_⟩)
        have := reply_cases hk
        have a := inB_iff.1 h0
        have b := inB_iff.1 h1
        omega
  clear hk
  rcases hc with h0 | ⟨h0, h1⟩ | ⟨h0, h1, h2⟩
  · have H0 := Lib.hid h0
    clear h0
    go_enter Try.func11, Try.ntmps11
    go_wp2_with fail
    refine (refIn_is _ _ _ _ _ H0.out).mono ?_
    rintro e w1 ⟨rfl, rfl⟩
    go_wp2_with fail
    go_ret2
    exact ⟨rfl, rfl⟩
  all_goals
    have H0 := Lib.hid h0
    have H1 := Lib.hid h1
    clear h0 h1
    go_enter Try.func11, Try.ntmps11
    go_wp2_with fail
    refine (refIn_is _ _ _ _ _ H0.out).mono ?_
    rintro e w1 ⟨rfl, rfl⟩
    go_wp2_with fail
    refine (refIn_is _ _ _ _ _ H1.out).mono ?_
    rintro e w1 ⟨rfl, rfl⟩
    go_wp2_with fail
    go_ret2
    exact ⟨rfl, rfl⟩
set_option maxHeartbeats 800000 in
theorem refReply_yes (id code : Int) (body x y z : ByteArray) (w : World) (hk : replyOk id code body = true) (hx : Hid (Str (putL id 4) = x)) (hy : Hid (Str (putL code 1) = y)) (hz : Hid (textL body = z)) (sx : x.size ≤ 8) (sy : y.size ≤ 8) (sz : z.size ≤ 256) :
    Calls Try.prog 11 #[.int .i64 id, .int .i64 code, .string body] w fun e w' => e = .returned (.tuple #[.string (⟨#[1]⟩ ++ x ++ y ++ z), .bool true]) ∧ Below w.heap.size w w' := by
  obtain ⟨a0, a1, a2, a3, a4⟩ := replyOk_in hk
  have H0 : Hid (inB 0 4294967295 id = true) := Lib.hid (inB_iff.2 ⟨a0, a1⟩)
  have H1 : Hid (inB 0 255 code = true) := Lib.hid (inB_iff.2 ⟨a2, a3⟩)
  have h3' : ¬ 100 < (body.size : Int) := by omega
  have s0 : (⟨#[1]⟩ : ByteArray).size = 1 := by decide
  clear hk a4
  go_enter Try.func11, Try.ntmps11
  go_wp2_with fail
  refine (refIn_is _ _ _ _ _ H0.out).mono ?_
  rintro e w1 ⟨rfl, rfl⟩
  go_wp2_with fail
  refine (refIn_is _ _ _ _ _ H1.out).mono ?_
  rintro e w1 ⟨rfl, rfl⟩
  go_wp2_with fail
  refine (refput_is _ _ _ _ (by omega) (by omega) hx.out).mono ?_
  rintro e w2 ⟨rfl, b2⟩
  go_wp2_with fail
  refine (refput_is _ _ _ _ (by omega) (by omega) hy.out).mono ?_
  rintro e w3 ⟨rfl, b3⟩
  go_wp2_with fail
  refine (reftext_is _ _ _ hz.out).mono ?_
  rintro e w4 ⟨rfl, b4⟩
  go_wp2_with fail
  go_ret2
  exact ⟨rfl, chain (chain b2 b3) b4⟩
theorem refReply_any (id code : Int) (body : ByteArray) (w : World) :
    Calls Try.prog 11 #[.int .i64 id, .int .i64 code, .string body] w fun e w' => e = .returned (.tuple #[.string (replyP id code body), .bool (replyOk id code body)]) ∧ Below w.heap.size w w' := by
  cases h : replyOk id code body
  · refine (refReply_no id code body w h).mono ?_
    rintro e w' ⟨rfl, rfl⟩
    exact ⟨by simp [replyP, h], Below.refl _ _⟩
  · have := refReply_yes id code body _ _ _ w h (Lib.hid rfl) (Lib.hid rfl) (Lib.hid rfl) (putL_size _ _ (by omega)) (putL_size _ _ (by omega)) (textL_size2 _)
    simpa only [replyP, replyB, h, if_true] using this
/-- The block of a part. -/
def PB (w : World) (g : Nat) (s : ByteArray) (bad : Bool) : Prop := w.heap[g]? = some (.cells #[.string s, .bool bad] 81)
theorem PB.lt {w : World} {g : Nat} {s : ByteArray} {b : Bool} (h : PB w g s b) : g < w.heap.size := (Array.getElem?_eq_some_iff.1 h).1
theorem PB.below {w w' : World} {g : Nat} {s : ByteArray} {b : Bool} (h : PB w g s b) (k : Below w.heap.size w w') : PB w' g s b := kept h k
theorem PB.set {w : World} {g : Nat} {s : ByteArray} {b : Bool} (h : PB w g s b) (t : ByteArray) (c : Bool) : PB ((w.setCell ⟨g, 1, none⟩ (.bool c)).setCell ⟨g, 0, none⟩ (.string t)) g t c := by
  have := Go.Joins.block_setCell (i := 0) (Go.Joins.block_setCell (i := 1) h (.bool c)) (.string t)
  exact this
theorem PB.cells {w : World} {g : Nat} {s : ByteArray} {b : Bool} (h : PB w g s b) : w.cell? ⟨g, 0, none⟩ = some (.string s) ∧ w.cell? ⟨g, 1, none⟩ = some (.bool b) ∧ w.frozen? ⟨g, 0, none⟩ = false ∧ w.frozen? ⟨g, 1, none⟩ = false :=
  ⟨by rw [Go.Joins.cell_of_block h]; rfl, by rw [Go.Joins.cell_of_block h]; rfl, Go.Joins.unfrozen_of_block h 0, Go.Joins.unfrozen_of_block h 1⟩
set_option maxHeartbeats 800000 in
theorem pnum_is (g : Nat) (s r : ByteArray) (size v : Int) (bad ok bad' : Bool) (w : World) (h : PB w g s bad) (h1 : 1 ≤ size) (hz : size ≤ 4) (hv : Hid (takeN s size = v)) (hr : Hid (takeR s size = r)) (hk : Hid (takeOk s size = ok)) (hb : (bad || !ok) = bad') :
    Calls Try.prog 28 #[.pointer (some ⟨g, 0, none⟩), .int .i64 size] w fun e w' => e = .returned (.int .i64 v) ∧ PB w' g r bad' ∧ Below g w w' := by
  subst hb
  have hin := takeN_in s size hz
  rw [hv.out] at hin
  have he : Hid (takeE s size = if ok = true then 0 else 2) := Lib.hid (by
    unfold takeE
    rw [hk.out, if_pos (show 1 ≤ size ∧ size ≤ 8 by omega)])
  obtain ⟨c0, _⟩ := h.cells
  have H := Lib.hid h
  clear h
  cases bad
  all_goals cases ok
  all_goals
    go_enter Try.func28, Try.ntmps28
    go_wp2_with fail
    refine (refTake_any _ _ _).mono ?_
    rw [hv.out, hr.out, he.out]
    simp only [if_true, Bool.false_eq_true, if_false]
    rintro e w1 ⟨rfl, b1⟩
    have H1 := Lib.hid (H.out.below b1)
    obtain ⟨d0, d1, f0, f1⟩ := H1.out.cells
    have hb := b1.mono (Nat.le_of_lt H.out.lt)
    clear b1
    go_wp2_with fail
    go_ret
    exact ⟨rfl, H1.out.set _ _, (hb.setCell (Nat.le_refl _) _).setCell (Nat.le_refl _) _⟩
set_option maxHeartbeats 800000 in
theorem ptxt_is (g : Nat) (s v r : ByteArray) (bad ok bad' : Bool) (w : World) (h : PB w g s bad) (hs : s.size ≤ 9223372036854775807) (hv : Hid (ttS s = v)) (hr : Hid (ttR s = r)) (hk : Hid (ttOk s = ok)) (hb : (bad || !ok) = bad') :
    Calls Try.prog 29 #[.pointer (some ⟨g, 0, none⟩)] w fun e w' => e = .returned (.string v) ∧ PB w' g r bad' ∧ Below g w w' := by
  subst hb
  obtain ⟨c0, _⟩ := h.cells
  have H := Lib.hid h
  clear h
  cases bad
  all_goals cases ok
  all_goals
    go_enter Try.func29, Try.ntmps29
    go_wp2_with fail
    refine (refTakeText_any _ _ hs).mono ?_
    rw [hv.out, hr.out, hk.out]
    rintro e w1 ⟨rfl, b1⟩
    have H1 := Lib.hid (H.out.below b1)
    obtain ⟨d0, d1, f0, f1⟩ := H1.out.cells
    have hb := b1.mono (Nat.le_of_lt H.out.lt)
    clear b1
    go_wp2_with fail
    go_ret
    exact ⟨rfl, H1.out.set _ _, (hb.setCell (Nat.le_refl _) _).setCell (Nat.le_refl _) _⟩
end Go.Proofs.Ytemhlhcaahaecaa
