/-
  Package proto: what a reader takes off a request.
-/
import Derived.Test.YtemhlhcaahaecaaProtoFld2
namespace Go.Proofs.Ytemhlhcaahaecaa
open Go.RowKit
set_option linter.unusedVariables false
set_option linter.unusedSimpArgs false
/-- The first rune of a text. -/
def ltr (v : ByteArray) : Int := if v.size = 0 then 0 else ((Utf8.decode v 0).1 : Int)
theorem ttS_size2 (s : ByteArray) : (ttS s).size ≤ s.size := by
  cases h : ttOk s
  · rw [(tt_no s h).1]; exact Nat.zero_le _
  · have := (tt_back s h).2.2.2; omega
theorem ttR_size2 (s : ByteArray) : (ttR s).size ≤ s.size := by
  cases h : ttOk s
  · rw [(tt_no s h).2]; exact Nat.zero_le _
  · have := (tt_back s h).2.2.2; omega
def hdS (s : ByteArray) : ByteArray := s.extract 0 (min 29 s.size)
def hdR (s : ByteArray) : ByteArray := s.extract (min 29 s.size) s.size
set_option maxHeartbeats 400000 in
theorem rletters_is (g : Nat) (s r : ByteArray) (v : Int) (w : World) (h : RD w g s) (hs : s.size ≤ 9223372036854775807) (hv : Hid (parN (ttS s) = v)) (hr : Hid (ttR s = r)) :
    Calls Try.prog 42 #[.pointer (some ⟨g, 0, none⟩)] w fun e w' => e = .returned (.int .i64 v) ∧ RD w' g r ∧ Below g w w' := by
  have hz : (ttS s).size ≤ 9223372036854775807 := by have := ttS_size2 s; omega
  have H := Lib.hid h
  clear h
  go_enter Try.func42, Try.ntmps42
  go_wp2_with fail
  refine (rtext_is g s _ _ _ H.out hs (Lib.hid rfl) hr).mono ?_
  rintro e w1 ⟨rfl, f1, b1⟩
  have F := Lib.hid f1
  clear f1
  go_wp2_with fail
  refine (parse_any _ _ hz).mono ?_
  rw [hv.out]
  rintro e w2 ⟨rfl, b2⟩
  go_wp2_with fail
  go_ret
  exact ⟨rfl, F.out.below b2, b1.trans (b2.mono (Nat.le_of_lt F.out.lt))⟩
set_option maxHeartbeats 400000 in
theorem rletter_is (g : Nat) (s r t : ByteArray) (v : Int) (w : World) (h : RD w g s) (hs : s.size ≤ 9223372036854775807) (ht : Hid (ttS s = t)) (hv : Hid (ltr t = v)) (hr : Hid (ttR s = r)) :
    Calls Try.prog 44 #[.pointer (some ⟨g, 0, none⟩)] w fun e w' => e = .returned (.int .i32 v) ∧ RD w' g r ∧ Below g w w' := by
  have H := Lib.hid h
  clear h
  by_cases h0 : t.size = 0
  · have hv0 : v = 0 := by rw [← hv.out]; unfold ltr; rw [if_pos h0]
    subst hv0
    have hend := fun (w : World) ty => run_next_end (P := Try.prog) w t 0 ty (by omega)
    clear h0
    go_enter Try.func44, Try.ntmps44
    go_wp2_with fail
    refine (rtext_is g s _ _ _ H.out hs ht hr).mono ?_
    rintro e w1 ⟨rfl, f1, b1⟩
    have F := Lib.hid f1
    clear f1
    go_wp2_with fail
    go_loopw [4] (fun _ wr => wr = w1.iter t 0) (fun _ _ => 0)
    case atStart => rfl
    case round =>
      subst hrel
      have hend' := hend w1
      go_wp2_with fail
      go_ret
      exact ⟨rfl, F.out.below ((Below.refl _ _).alloc (Nat.le_refl _) _), b1.trans (((Below.refl _ _).alloc (Nat.le_refl _) _).mono (Nat.le_of_lt F.out.lt))⟩
  · have hv0 : v = ((Utf8.decode t 0).1 : Int) := by rw [← hv.out]; unfold ltr; rw [if_neg h0]
    have hlt : 0 < t.size := by omega
    generalize hd : (Utf8.decode t 0).1 = d at hv0
    subst hv0
    have hnx := fun (w : World) ty => run_next_any (P := Try.prog) w t 0 ty hlt
    rw [hd] at hnx
    clear h0
    go_enter Try.func44, Try.ntmps44
    go_wp2_with fail
    refine (rtext_is g s _ _ _ H.out hs ht hr).mono ?_
    rintro e w1 ⟨rfl, f1, b1⟩
    have F := Lib.hid f1
    clear f1
    go_wp2_with fail
    go_loopw [4] (fun _ wr => wr = w1.iter t 0) (fun _ _ => 0)
    case atStart => rfl
    case round =>
      subst hrel
      have hnx' := hnx w1
      go_wp2_with fail
      go_ret
      exact ⟨rfl, F.out.below ((Below.refl _ _).alloc (Nat.le_refl _) _), b1.trans (((Below.refl _ _).alloc (Nat.le_refl _) _).mono (Nat.le_of_lt F.out.lt))⟩
set_option maxHeartbeats 400000 in
theorem rhandle_is (g : Nat) (s v r : ByteArray) (w : World) (h : RD w g s) (hs : s.size ≤ 9223372036854775807) (hv : Hid (hdS s = v)) (hr : Hid (hdR s = r)) :
    Calls Try.prog 43 #[.pointer (some ⟨g, 0, none⟩)] w fun e w' => e = .returned (.string v) ∧ RD w' g r ∧ Below g w w' := by
  have c0 : w.cell? ⟨g, 0, none⟩ = some (.string s) := by rw [Go.Joins.cell_of_block h]; rfl
  have f0 : w.frozen? ⟨g, 0, none⟩ = false := Go.Joins.unfrozen_of_block h 0
  have H := Lib.hid h
  clear h
  rcases Nat.lt_or_ge s.size 29 with hc | hc
  · have e1 : hdS s = s.extract 0 s.size := by unfold hdS; rw [Nat.min_eq_right (by omega)]
    have e2 : hdR s = s.extract s.size s.size := by unfold hdR; rw [Nat.min_eq_right (by omega)]
    rw [e1] at hv
    rw [e2] at hr
    clear e1 e2
    go_enter Try.func43, Try.ntmps43
    go_wp2_with fail
    go_ret
    rw [← hv.out, ← hr.out]
    refine ⟨by simp, ?_, ?_⟩
    · simpa using H.out.set _
    · have hb : Below g w w := Below.refl _ _
      exact hb.setCell (Nat.le_refl _) _
  · have e1 : hdS s = s.extract 0 29 := by unfold hdS; rw [Nat.min_eq_left (by omega)]
    have e2 : hdR s = s.extract 29 s.size := by unfold hdR; rw [Nat.min_eq_left (by omega)]
    rw [e1] at hv
    rw [e2] at hr
    clear e1 e2
    go_enter Try.func43, Try.ntmps43
    go_wp2_with fail
    go_ret
    rw [← hv.out, ← hr.out]
    refine ⟨by simp, ?_, ?_⟩
    · simpa using H.out.set _
    · have hb : Below g w w := Below.refl _ _
      exact hb.setCell (Nat.le_refl _) _
end Go.Proofs.Ytemhlhcaahaecaa
