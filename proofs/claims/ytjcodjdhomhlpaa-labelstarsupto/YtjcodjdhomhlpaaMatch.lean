/-
  matchParts, Match; the document's Match.
-/
import Derived.Test.YtjcodjdhomhlpaaParts
namespace Go.Proofs.Ytjcodjdhomhlpaa
open Go.RowKit
set_option linter.unusedVariables false

def STAR : ByteArray := ⟨#[42]⟩
def STARS : ByteArray := ⟨#[42, 42]⟩
def Cells (w : World) (g : Nat) (L : List ByteArray) : Prop := ∀ j (h : j < L.length), w.cell? ⟨g, j, none⟩ = some (.string L[j])
theorem Cells.take {w : World} {g : Nat} {L : List ByteArray} (h : Cells w g L) (n : Nat) : Cells w g (L.take n) := fun j hj => by
  rw [List.length_take] at hj
  rw [List.getElem_take]
  exact h j (by omega)
theorem Texts.cells {w : World} {base : Nat} {v : Value} {L : List ByteArray} {g cap : Nat} (h : Texts w base v L g cap) : Cells w g L := h.cell
theorem Cells.drewN {w : World} {g : Nat} {L : List ByteArray} (h : Cells w g L) (n : Nat) : Cells (w.drewN n) g L := fun j hj => h j hj
/-- Does each part match? -/
def matchL : List ByteArray → List ByteArray → Bool
  | a :: A, b :: B => (decide (a = STAR) || decide (a = b)) && matchL A B
  | _, _ => true
theorem matchL_step (A B : List ByteArray) (j : Nat) (hA : j < A.length) (hB : j < B.length) : matchL (A.drop j) (B.drop j) = ((decide (A[j] = STAR) || decide (A[j] = B[j])) && matchL (A.drop (j + 1)) (B.drop (j + 1))) := by
  rw [List.drop_eq_getElem_cons hA, List.drop_eq_getElem_cons hB, matchL]
theorem matchL_end (A B : List ByteArray) (j : Nat) (hA : A.length ≤ j) : matchL (A.drop j) (B.drop j) = true := by
  rw [List.drop_eq_nil_of_le hA]
  cases B.drop j <;> rfl
theorem star_no (a : ByteArray) (h : a ≠ STAR) : (a.toList == [42]) = false := by
  rw [beq_eq_false_iff_ne]
  intro e
  apply h
  rw [← list_inj, e, toList_data]; rfl
theorem star_toList : STAR.toList = [42] := by rw [toList_data]; rfl
theorem stars_no (a : ByteArray) (h : a ≠ STARS) : (a.toList == [42, 42]) = false := by
  rw [beq_eq_false_iff_ne]
  intro e
  apply h
  rw [← list_inj, e]; rw [toList_data]; rfl
theorem stars_toList : STARS.toList = [42, 42] := by rw [toList_data]; rfl
theorem texts_no (a b : ByteArray) (h : a ≠ b) : (a.toList == b.toList) = false := by
  rw [beq_eq_false_iff_ne]
  intro e
  exact h (list_inj.1 e)
set_option maxHeartbeats 1600000 in
theorem matchParts_any (A B : List ByteArray) (g h n c1 c2 : Nat) (v : Bool) (w : World) (hA : A.length = n) (hB : B.length = n) (hn : n ≤ 2097152) (CA : Cells w g A) (CB : Cells w h B) (hv : matchL A B = v) :
    Calls Try.prog 27 #[.slice (some ⟨g, 0, none⟩) n c1, .slice (some ⟨h, 0, none⟩) n c2] w fun e w' => e = .returned (.bool v) ∧ w = w' := by
  have HA := Lib.hid hA
  have HB := Lib.hid hB
  have KA := Lib.hid CA
  have KB := Lib.hid CB
  have HV := Lib.hid hv
  clear hA hB CA CB hv
  go_enter Try.func27, Try.ntmps27
  go_wp2_with fail
  go_loop [5, 6, 9] (fun _ _ i => ∃ j : Nat, j ≤ n ∧ i = .int .i64 (j : Int) ∧ Hid (matchL (A.drop j) (B.drop j) = v)) (fun _ _ i => n + 1 - (intOf i).toNat)
  case atStart => exact ⟨0, by omega, rfl, by simpa using HV⟩
  case round =>
    obtain ⟨j, hj, rfl, hm⟩ := hrel
    by_cases hlt : j < n
    · have hlt' : (j : Int) < (n : Int) := by omega
      have ha : j < A.length := by rw [HA.out]; exact hlt
      have hb : j < B.length := by rw [HB.out]; exact hlt
      have hca := KA.out j ha
      have hcb := KB.out j hb
      have hst := matchL_step A B j ha hb
      rw [hm.out] at hst
      generalize A[j] = a at *
      generalize B[j] = b at *
      clear ha hb hm
      by_cases h1 : a = STAR
      · subst h1
        have NX : Hid (matchL (A.drop (j + 1)) (B.drop (j + 1)) = v) := Lib.hid (by rw [hst]; simp)
        have hsl := star_toList
        clear hst
        go_wp2_with fail
        go_round
        case rel => exact ⟨j + 1, by omega, by go_num, NX⟩
        case measure => simp [intOf]; omega
      · have hs := star_no a h1
        by_cases h2 : a = b
        · subst h2
          have NX : Hid (matchL (A.drop (j + 1)) (B.drop (j + 1)) = v) := Lib.hid (by rw [hst]; simp)
          clear hst h1
          go_wp2_with fail
          go_round
          case rel => exact ⟨j + 1, by omega, by go_num, NX⟩
          case measure => simp [intOf]; omega
        · have ht := texts_no a b h2
          have V : Hid (v = false) := Lib.hid (by rw [hst]; simp [h1, h2])
          clear hst h1 h2
          go_wp2_with fail
          go_ret
          exact ⟨ret_bool V.out.symm, rfl⟩
    · have hm2 := hm.out
      rw [matchL_end A B j (by rw [HA.out]; omega)] at hm2
      have V := Lib.hid hm2
      have hlt' : (n : Int) ≤ (j : Int) := by omega
      clear hm hm2 hlt
      go_wp2_with fail
      go_ret
      exact ⟨ret_bool V.out, rfl⟩
/-- Does a text match a pattern? -/
def matchW (W H : List ByteArray) : Bool := if W[W.length - 1]? = some STARS then decide (W.length ≤ H.length) && matchL (W.take (W.length - 1)) (H.take (W.length - 1)) else decide (W.length = H.length) && matchL W H
def matchB (p s : ByteArray) : Bool := matchW (partsL p) (partsL s)
theorem matchW_yes {W H : List ByteArray} {m k : Nat} (hW : W.length = m + 1) (hH : H.length = k) (h : W[m]? = some STARS) : matchW W H = (decide (m + 1 ≤ k) && matchL (W.take m) (H.take m)) := by
  unfold matchW
  rw [hW, Nat.add_sub_cancel, if_pos h, hH]
theorem matchW_no {W H : List ByteArray} {m k : Nat} (hW : W.length = m + 1) (hH : H.length = k) (h : W[m]? ≠ some STARS) : matchW W H = (decide (m + 1 = k) && matchL W H) := by
  unfold matchW
  rw [hW, Nat.add_sub_cancel, if_neg h, hH]
set_option maxHeartbeats 3200000 in
theorem match_walk (p s : ByteArray) (W H : List ByteArray) (m k : Nat) (v : Bool) (w : World) (hp : p.size ≤ 1048576) (hs : s.size ≤ 1048576) (PW : Hid (partsL p = W)) (PH : Hid (partsL s = H)) (hW : W.length = m + 1) (hH : H.length = k) (hm : m ≤ 1048576) (hk : k ≤ 1048577) (hv : matchW W H = v) :
    Calls Try.prog 20 #[.string p, .string s] w fun e w' => e = .returned (.bool v) ∧ Below w.heap.size w w' := by
  have HW := Lib.hid hW
  have HH := Lib.hid hH
  have HV := Lib.hid hv
  clear hW hH hv
  go_enter Try.func20, Try.ntmps20
  go_wp2_with fail
  refine (parts_any _ _ hp).mono ?_
  rw [PW.out]
  rintro e w1 ⟨⟨g, cap, rfl, T1⟩, b1⟩
  rw [HW.out]
  go_wp2_with fail
  refine (parts_any _ _ hs).mono ?_
  rw [PH.out]
  rintro e w2 ⟨⟨g2, cap2, rfl, T2⟩, b2⟩
  rw [HH.out]
  have T1' := T1.below b2
  have bb := chain b1 b2
  have hmW : m < W.length := by rw [HW.out]; omega
  have hcl := T1'.cell m hmW
  have hl1 : m + 1 ≤ cap := by rw [← HW.out]; exact T1.len
  have hl2 : k ≤ cap2 := by rw [← HH.out]; exact T2.len
  have hc1 : cap ≤ 9223372036854775807 := T1.cap
  have hc2 : cap2 ≤ 9223372036854775807 := T2.cap
  have CW := Lib.hid T1'.cells
  have CH := Lib.hid T2.cells
  clear T1 T1' T2 b1 b2
  by_cases hst : W[m] = STARS
  · have hv2 := matchW_yes HW.out HH.out (by rw [List.getElem?_eq_getElem hmW, hst])
    rw [HV.out] at hv2
    rw [hst] at hcl
    have hsl := stars_toList
    clear hst hmW
    by_cases hlen : m < k
    · have hlen' : decide (m < k) = true := by simp; omega
      have hlen2 : (m : Int) < (k : Int) := by omega
      have V : Hid (matchL (W.take m) (H.take m) = v) := Lib.hid (by rw [hv2]; simp; omega)
      have hi1 : (m : Int) ≤ (cap : Int) := by omega
      have hi2 : (m : Int) ≤ (cap2 : Int) := by omega
      have hi3 : 0 ≤ (m : Int) := by omega
      have e1 : Hid ((W.take m).length = m) := Lib.hid (by rw [List.length_take, HW.out]; omega)
      have e2 : Hid ((H.take m).length = m) := Lib.hid (by rw [List.length_take, HH.out]; omega)
      have C1 := Lib.hid (CW.out.take m)
      have C2 := Lib.hid (CH.out.take m)
      clear hv2
      go_wp2_with fail
      go_quiet ((go_at_call 27; exact Calls.quiet_of_same ((matchParts_any (W.take m) (H.take m) g g2 m _ _ v _ e1.out e2.out (by omega) (C1.out.drewN _) (C2.out.drewN _) V.out).mono fun _ _ h => ⟨h.1, h.2.symm⟩)))
      go_wp2_with fail
      go_ret
      exact ⟨rfl, drewN_below bb _⟩
    · have hlen' : decide (m < k) = false := by simp; omega
      have hlen2 : (k : Int) ≤ (m : Int) := by omega
      have V : Hid (v = false) := Lib.hid (by rw [hv2]; simp; omega)
      clear hv2
      go_wp2_with fail
      go_quiet (fail)
      go_wp2_with fail
      go_ret
      exact ⟨ret_bool V.out.symm, drewN_below bb _⟩
  · have hv2 := matchW_no HW.out HH.out (by rw [List.getElem?_eq_getElem hmW]; intro h; injection h with h; exact hst h)
    rw [HV.out] at hv2
    have hsl := stars_no _ hst
    generalize W[m] = x at *
    clear hst hmW
    by_cases hlen : m + 1 = k
    · subst hlen
      have V : Hid (matchL W H = v) := Lib.hid (by rw [hv2]; simp)
      clear hv2
      go_wp2_with fail
      refine (matchParts_any W H g g2 (m + 1) _ _ v _ HW.out HH.out (by omega) CW.out CH.out V.out).mono ?_
      rintro e w9 ⟨rfl, rfl⟩
      go_wp2_with fail
      go_ret
      exact ⟨rfl, bb⟩
    · have hne : ((m : Int) + 1 == (k : Int)) = false := by simp; omega
      have V : Hid (v = false) := Lib.hid (by rw [hv2]; simp [hlen])
      clear hv2 hlen
      go_wp2_with fail
      go_ret
      exact ⟨ret_bool V.out.symm, bb⟩
theorem match_any (p s : ByteArray) (w : World) (hp : p.size ≤ 1048576) (hs : s.size ≤ 1048576) :
    Calls Try.prog 20 #[.string p, .string s] w fun e w' => e = .returned (.bool (matchB p s)) ∧ Below w.heap.size w w' := by
  have h1 := partsL_pos p
  have h2 := partsL_length p
  have h3 := partsL_length s
  exact match_walk p s (partsL p) (partsL s) ((partsL p).length - 1) _ _ w hp hs (Lib.hid rfl) (Lib.hid rfl) (by omega) rfl (by omega) (by omega) rfl
end Go.Proofs.Ytjcodjdhomhlpaa
