/-
  The document's Right and Fold, whatever they are asked.
-/
import Derived.Test.YtlbnakoaflladaaRef02
import Derived.Test.YtlbnakoaflladaaBuf
namespace Go.Proofs.Ytlbnakoaflladaa
open Go.RowKit
set_option linter.unusedVariables false

theorem Buf.opened (w : World) (b : ByteArray) : ∃ cap w2 g, (convert 9 88 (.string b)).run Try.prog w = .ok (.slice (some ⟨g, 0, none⟩) b.size cap) w2 ∧ Buf w2 g b.data.toList ∧ Below w.heap.size w w2 ∧ w.heap.size ≤ g :=
  ⟨_, _, _, run_bytes_of_string (P := Try.prog) w 9 88 5 b Try.underlying9 Try.underlying88 Try.underlying5, Buf.made w b _, ((Below.refl _ _).drew).alloc (Nat.le_refl _) _, Nat.le_refl _⟩
set_option maxRecDepth 20000 in
set_option maxHeartbeats 1600000 in
theorem refRight_no (s : ByteArray) (n : Nat) (w : World) (hs : s.size ≤ 1048576) (hn : Hid ((RS s 0).length = n)) (hb : n ≤ 1048576) (h : n = 0 ∨ 16 < n ∨ (1 ≤ n ∧ n ≤ 16 ∧ 32 < s.size)) :
    Calls Try.prog 54 #[.string s] w fun e w' => e = .returned (.bool false) ∧ Below w.heap.size w w' := by
  rcases h with h | h | ⟨h, h', h''⟩
  · have h1 : (n : Int) < 1 := by omega
    clear h
    go_enter Try.func54, Try.ntmps54
    go_wp2_with fail
    refine (refRunes0_any _ _ hs).mono ?_
    rintro e w1 ⟨⟨a, cap, rfl, hN⟩, bb⟩
    rw [hn.out]
    have HN := Lib.hid hN
    clear hN
    go_wp2_with fail
    go_ret
    exact ⟨rfl, bb⟩
  · have h1 : 16 < (n : Int) := by omega
    clear h
    go_enter Try.func54, Try.ntmps54
    go_wp2_with fail
    refine (refRunes0_any _ _ hs).mono ?_
    rintro e w1 ⟨⟨a, cap, rfl, hN⟩, bb⟩
    rw [hn.out]
    have HN := Lib.hid hN
    clear hN
    go_wp2_with fail
    go_ret
    exact ⟨rfl, bb⟩
  · have h1 : 1 ≤ (n : Int) := by omega
    have h2 : (n : Int) ≤ 16 := by omega
    have h3 : 32 < (s.size : Int) := by omega
    clear h h' h''
    go_enter Try.func54, Try.ntmps54
    go_wp2_with fail
    refine (refRunes0_any _ _ hs).mono ?_
    rintro e w1 ⟨⟨a, cap, rfl, hN⟩, bb⟩
    rw [hn.out]
    have HN := Lib.hid hN
    clear hN
    go_wp2_with fail
    go_ret
    exact ⟨rfl, bb⟩
theorem refRight_any (s : ByteArray) (w : World) (hs : s.size ≤ 1048576) :
    Calls Try.prog 54 #[.string s] w fun e w' => e = .returned (.bool (rightB s)) ∧ Below w.heap.size w w' := by
  have hl := RS_length s 0
  by_cases h0 : (RS s 0).length = 0
  · have e : rightB s = false := by
      cases h : rightB s with
      | false => rfl
      | true =>
        have ⟨_, h2, _⟩ := right_all s h
        rw [RS_step s 0 (by omega)] at h0
        simp at h0
    rw [e]; exact refRight_no s _ w hs (Lib.hid rfl) (by omega) (.inl h0)
  · by_cases h16 : 16 < (RS s 0).length
    · have e : rightB s = false := by
        cases h : rightB s with
        | false => rfl
        | true => have := rgo_len _ _ _ (right_all s h).2.2; omega
      rw [e]; exact refRight_no s _ w hs (Lib.hid rfl) (by omega) (.inr (.inl h16))
    · by_cases h32 : 32 < s.size
      · have e : rightB s = false := by unfold rightB; simp; omega
        rw [e]; exact refRight_no s _ w hs (Lib.hid rfl) (by omega) (.inr (.inr ⟨by omega, by omega, h32⟩))
      · have h1 : 1 ≤ s.size := by omega
        refine refRight_walk s _ _ _ w (by omega) (Lib.hid rfl) (Lib.hid rfl) (by omega) (by omega) (Lib.hid (rs_le _)) (Lib.hid (rightB_in s h1 (by omega)).symm)
/-- The first j bytes made small. -/
def lowK (l : List UInt8) : Nat → List UInt8
  | 0 => l
  | j + 1 => (lowK l j).set j (lowB (l.getD j 0))
theorem lowK_length (l : List UInt8) (j : Nat) : (lowK l j).length = l.length := by
  induction j with
  | zero => rfl
  | succ j ih => simp [lowK, ih]
theorem lowK_get (l : List UInt8) (j t : Nat) : (lowK l j)[t]? = if t < j then (l[t]?).map lowB else l[t]? := by
  induction j with
  | zero => rw [if_neg (by omega)]; rfl
  | succ j ih =>
    rw [lowK, List.getElem?_set, lowK_length]
    by_cases e : j = t
    · subst e
      by_cases h : j < l.length
      · simp [h, List.getD_eq_getElem?_getD]
      · simp [h]
    · rw [if_neg e, ih]
      by_cases h2 : t < j
      · rw [if_pos h2, if_pos (by omega)]
      · rw [if_neg h2, if_neg (by omega)]
theorem lowK_all (l : List UInt8) (n : Nat) (h : l.length ≤ n) : lowK l n = l.map lowB := by
  apply List.ext_getElem?
  intro t
  rw [lowK_get, List.getElem?_map]
  by_cases ht : t < n
  · rw [if_pos ht]
  · rw [if_neg ht, List.getElem?_eq_none (by omega)]; rfl
theorem lowK_next (l : List UInt8) (j : Nat) (h : j < l.length) : (lowK l j)[j]? = l[j]? := by rw [lowK_get, if_neg (by omega)]
theorem lowK_same (l : List UInt8) (j : Nat) (h : j < l.length) (hx : lowB l[j] = l[j]) : lowK l (j + 1) = lowK l j := by
  rw [lowK, List.getD_eq_getElem?_getD, List.getElem?_eq_getElem h, Option.getD_some, hx]
  apply List.ext_getElem?
  intro t
  rw [List.getElem?_set, lowK_length]
  by_cases e : j = t
  · subst e; rw [if_pos rfl, if_pos h, lowK_next l j h, List.getElem?_eq_getElem h]
  · rw [if_neg e]
set_option maxRecDepth 20000 in
set_option maxHeartbeats 400000 in
theorem refFold_no (s : ByteArray) (w : World) (hs : s.size ≤ 1048576) (h : rightB s = false) :
    Calls Try.prog 41 #[.string s] w fun e w' => e = .returned (.tuple #[.string ⟨#[]⟩, .bool false]) ∧ Below w.heap.size w w' := by
  have H := Lib.hid h
  clear h
  go_enter Try.func41, Try.ntmps41
  go_wp2_with fail
  refine (refRight_any _ _ hs).mono ?_
  rw [H.out]
  rintro e w1 ⟨rfl, bb⟩
  go_wp2_with fail
  go_ret2
  exact ⟨rfl, bb⟩
set_option maxRecDepth 20000 in
set_option maxHeartbeats 1600000 in
theorem refFold_yes (s : ByteArray) (l : List UInt8) (n : Nat) (w : World) (hs : s.size ≤ 32) (H : Hid (rightB s = true)) (HL : Hid (s.data.toList = l)) (hn : Hid (l.length = n)) (hsn : s.size = n) :
    Calls Try.prog 41 #[.string s] w fun e w' => e = .returned (.tuple #[.string (Str (l.map lowB)), .bool true]) ∧ Below w.heap.size w w' := by
  have hn32 : n ≤ 32 := by omega
  go_enter Try.func41, Try.ntmps41
  go_wp2_with fail
  refine (refRight_any _ _ (by omega)).mono ?_
  rw [H.out]
  rintro e w1 ⟨rfl, bb⟩
  obtain ⟨cap, w2, g, hbs, hB, hW, hg⟩ := Buf.opened w1 s
  rw [HL.out] at hB
  rw [hsn] at hbs
  have HB := Lib.hid hB
  clear hB
  have HS := Lib.hid hsn
  clear hsn
  go_wp2_with fail
  go_loopw [6] (fun i wr => ∃ j : Nat, i = .int .i64 (j : Int) ∧ j ≤ n ∧ Hid (Buf wr g (lowK l j)) ∧ Below w1.heap.size w1 wr) (fun i _ => n + 1 - (intOf i).toNat)
  case atStart => exact ⟨0, rfl, by omega, HB, hW⟩
  case round =>
    obtain ⟨j, rfl, hj, hbuf, hbw⟩ := hrel
    by_cases hlt : j < n
    · have hli : (j : Int) < (n : Int) := by omega
      have hjl : j < l.length := by rw [hn.out]; exact hlt
      have hml : j < (lowK l j).length := by rw [lowK_length]; exact hjl
      have hc := hbuf.out.cell j hml
      have hf := hbuf.out.free j hml
      have he : (lowK l j)[j] = l[j] := by
        have := lowK_next l j hjl
        rw [List.getElem?_eq_getElem hml, List.getElem?_eq_getElem hjl] at this
        exact Option.some.inj this
      rw [he] at hc
      have hx := UInt8.toNat_lt (l[j])
      have hlb := lowB_toNat (l[j])
      have hsame := lowK_same l j hjl
      have hset := hbuf.out.set j hml (lowB l[j])
      have hsucc : (lowK l j).set j (lowB l[j]) = lowK l (j + 1) := by
        rw [lowK, List.getD_eq_getElem?_getD, List.getElem?_eq_getElem hjl]; rfl
      rw [hsucc] at hset
      by_cases hup : 65 ≤ (l[j]).toNat ∧ (l[j]).toNat ≤ 90
      · have hlow : ((lowB l[j]).toNat : Int) = ((l[j]).toNat : Int) + 97 - 65 := by rw [hlb]; unfold lowR; rw [if_pos hup]; omega
        rw [hlow] at hset
        have NX := Lib.hid hset
        obtain ⟨u1, u2⟩ := hup
        have v1 : 65 ≤ (((l[j]).toNat : Nat) : Int) := by omega
        have v2 : (((l[j]).toNat : Nat) : Int) ≤ 90 := by omega
        clear hset hsucc hsame hlb hlow he u1 u2 hml hbuf
        generalize (l[j]).toNat = x at *
        clear hjl
        go_wp2_with fail
        go_roundw
        case rel => exact ⟨j + 1, by go_num, by omega, NX, hbw.setCell hg _⟩
        case measure => simp [intOf]; omega
      · have hlow : lowB l[j] = l[j] := by apply UInt8.toNat_inj.1; rw [hlb]; unfold lowR; rw [if_neg hup]
        have NX : Hid (Buf wr g (lowK l (j + 1))) := Lib.hid (by rw [hsame hlow]; exact hbuf.out)
        rcases (show (((l[j]).toNat : Nat) : Int) < 65 ∨ 90 < (((l[j]).toNat : Nat) : Int) by omega) with v1 | v1
        all_goals
          clear hset hsucc hsame hlb hlow he hup hml hbuf
          generalize (l[j]).toNat = x at *
          clear hjl
          go_wp2_with fail
          go_roundw
          case rel => exact ⟨j + 1, by go_num, by omega, NX, hbw⟩
          case measure => simp [intOf]; omega
    · have hli : (n : Int) ≤ (j : Int) := by omega
      have hcv := hbuf.out.conv cap
      rw [lowK_length, hn.out, lowK_all l j (by rw [hn.out]; omega)] at hcv
      go_wp2_with fail
      go_ret2
      exact ⟨rfl, chain bb hbw⟩
theorem refFold_any (s : ByteArray) (w : World) (hs : s.size ≤ 1048576) :
    Calls Try.prog 41 #[.string s] w fun e w' => e = .returned (.tuple #[.string (foldB s), .bool (rightB s)]) ∧ Below w.heap.size w w' := by
  cases h : rightB s
  · rw [foldB_no s h]; exact refFold_no s w hs h
  · rw [foldB_yes s h]
    exact refFold_yes s _ _ w (right_all s h).1 (Lib.hid h) (Lib.hid rfl) (Lib.hid rfl) (by simp)
end Go.Proofs.Ytlbnakoaflladaa
