/-
  The document's Match; words.
-/
import Derived.Test.YtjcodjdhomhlpaaEx02
namespace Go.Proofs.Ytjcodjdhomhlpaa
open Go.RowKit
set_option linter.unusedVariables false

set_option maxHeartbeats 1600000 in
theorem words_any (A B : List ByteArray) (g h n c1 c2 : Nat) (w : World) (hA : A.length = n) (hn : n ≤ 2097152) (CA : Cells w g A) (CB : Cells w h A) :
    Calls Try.prog 17 #[.slice (some ⟨g, 0, none⟩) n c1, .slice (some ⟨h, 0, none⟩) n c2] w fun e w' => e = .returned (.bool true) ∧ ∃ k, w' = w.drewN k := by
  have HA := Lib.hid hA
  have KA := Lib.hid CA
  have KB := Lib.hid CB
  clear hA CA CB
  go_enter Try.func17, Try.ntmps17
  go_wp2_with fail
  go_loopw [5] (fun i wr => ∃ (j q : Nat), j ≤ n ∧ i = .int .i64 (j : Int) ∧ wr = w.drewN q) (fun i _ => n + 1 - (intOf i).toNat)
  case atStart => exact ⟨0, 0, by omega, rfl, rfl⟩
  case round =>
    obtain ⟨j, q, hj, rfl, rfl⟩ := hrel
    by_cases hlt : j < n
    · have hlt' : (j : Int) < (n : Int) := by omega
      have ha : j < A.length := by rw [HA.out]; exact hlt
      have hca := KA.out.drewN q j ha
      have hcb := KB.out.drewN q j ha
      generalize A[j] = a at *
      clear ha
      generalize hwq : w.drewN q = wq at *
      have WQ := Lib.hid hwq
      clear hwq
      go_wp2_with fail
      go_quiet (fail)
      go_wp2_with fail
      go_roundw
      case rel => exact ⟨j + 1, q + nq, by omega, by go_num, by rw [← WQ.out, World.drewN_drewN]⟩
      case measure => simp [intOf]; omega
    · have hlt' : (n : Int) ≤ (j : Int) := by omega
      clear hlt
      go_wp2_with fail
      go_ret
      exact ⟨rfl, q, rfl⟩
set_option maxHeartbeats 6400000 in
theorem refMatch_walk (p s : ByteArray) (W H : List ByteArray) (m k : Nat) (v : Bool) (w : World) (hp : p.size ≤ 1048576) (hs : s.size ≤ 1048576) (PW : Hid (partsL p = W)) (PH : Hid (partsL s = H)) (hW : W.length = m + 1) (hH : H.length = k) (hm : m ≤ 1048576) (hk : k ≤ 1048577) (hv : matchW W H = v) :
    Calls Try.prog 21 #[.string p, .string s] w fun e w' => e = .returned (.bool v) ∧ Below w.heap.size w w' := by
  have HW := Lib.hid hW
  have HH := Lib.hid hH
  have HV := Lib.hid hv
  clear hW hH hv
  go_enter Try.func21, Try.ntmps21
  go_wp2_with fail
  refine (refParts_any _ _ hp).mono ?_
  rw [PW.out]
  rintro e w1 ⟨⟨g, cap, rfl, T1⟩, b1⟩
  rw [HW.out]
  go_wp2_with fail
  refine (refParts_any _ _ hs).mono ?_
  rw [PH.out]
  rintro e w2 ⟨⟨g2, cap2, rfl, T2⟩, b2⟩
  rw [HH.out]
  have T1' := T1.below b2
  have bb := chain b1 b2
  have hmW : m < W.length := by rw [HW.out]; omega
  have hcl := T1'.cell m hmW
  have hl1 : m + 1 ≤ cap := by rw [← HW.out]; exact T1.len
  have hl2 : k ≤ cap2 := by rw [← HH.out]; exact T2.len
  have hc1 : cap ≤ 9223372036854775807 := T1.cap
  have hc2 : cap2 ≤ 9223372036854775807 := T2.cap
  have CW := Lib.hid T1'.cells
  have CH := Lib.hid T2.cells
  clear T1 T1' T2 b1 b2
  by_cases hst : W[m] = STARS
  · have hv2 := matchW_yes HW.out HH.out (by rw [List.getElem?_eq_getElem hmW, hst])
    rw [HV.out] at hv2
    rw [hst] at hcl
    have hsl := stars_toList
    clear hst hmW
    by_cases hlen : m < k
    · have hlen' : (m : Int) + 1 ≤ (k : Int) := by omega
      have hi1 : (m : Int) ≤ (cap2 : Int) := by omega
      have V : Hid (matchL (W.take m) (H.take m) = v) := Lib.hid (by rw [hv2]; simp; omega)
      have e1 : Hid ((W.take m).length = m) := Lib.hid (by rw [List.length_take, HW.out]; omega)
      have e2 : Hid ((H.take m).length = m) := Lib.hid (by rw [List.length_take, HH.out]; omega)
      have C1 := Lib.hid (CW.out.take m)
      have C2 := Lib.hid (CH.out.take m)
      clear hv2
      go_wp2_with fail
      go_loopw [8] (fun i wr => ∃ (j q : Nat), j ≤ m ∧ i = .int .i64 (j : Int) ∧ wr = w2.drewN q ∧ Hid (matchL ((W.take m).drop j) ((H.take m).drop j) = v)) (fun i _ => m + 1 - (intOf i).toNat)
      case atStart => exact ⟨0, 0, by omega, rfl, rfl, by simpa using V⟩
      case round =>
        obtain ⟨j, q, hj, rfl, rfl, hM⟩ := hrel
        by_cases hlt : j < m
        · have hlt' : (j : Int) < (m : Int) := by omega
          have ha : j < (W.take m).length := by rw [e1.out]; exact hlt
          have hb : j < (H.take m).length := by rw [e2.out]; exact hlt
          have hca := C1.out.drewN q j ha
          have hcb := C2.out.drewN q j hb
          have hcl2 := hcl
          have hstp := matchL_step _ _ j ha hb
          rw [hM.out] at hstp
          generalize (W.take m)[j] = a at *
          generalize (H.take m)[j] = b at *
          clear ha hb hM
          generalize hwq : w2.drewN q = wq at *
          have WQ := Lib.hid hwq
          clear hwq
          have jm1 : (j : Int) < (m : Int) + 1 := by omega
          by_cases h1 : a = STAR
          · subst h1
            have NX : Hid (matchL ((W.take m).drop (j + 1)) ((H.take m).drop (j + 1)) = v) := Lib.hid (by rw [hstp]; simp)
            have hsl1 := star_toList
            clear hstp
            go_wp2_with fail
            go_quiet (fail)
            go_wp2_with fail
            go_roundw
            case rel => exact ⟨j + 1, q + nq, by omega, by go_num, by rw [← WQ.out, World.drewN_drewN], NX⟩
            case measure => simp [intOf]; omega
          · have hs := star_no a h1
            by_cases h2 : a = b
            · subst h2
              have NX : Hid (matchL ((W.take m).drop (j + 1)) ((H.take m).drop (j + 1)) = v) := Lib.hid (by rw [hstp]; simp)
              clear hstp h1
              go_wp2_with fail
              go_quiet (fail)
              go_wp2_with fail
              go_roundw
              case rel => exact ⟨j + 1, q + nq, by omega, by go_num, by rw [← WQ.out, World.drewN_drewN], NX⟩
              case measure => simp [intOf]; omega
            · have ht := texts_no a b h2
              have V2 : Hid (v = false) := Lib.hid (by rw [hstp]; simp [h1, h2])
              clear hstp h1 h2
              go_wp2_with fail
              go_quiet (fail)
              go_wp2_with fail
              go_ret
              exact ⟨ret_bool V2.out.symm, by rw [← WQ.out]; exact drewN_below (drewN_below bb _) _⟩
        · have hm2 := hM.out
          rw [matchL_end _ _ j (by rw [e1.out]; omega)] at hm2
          have V2 := Lib.hid hm2
          have hlt' : (m : Int) ≤ (j : Int) := by omega
          clear hm2 hM hlt
          go_wp2_with fail
          go_ret
          exact ⟨ret_bool V2.out, drewN_below bb _⟩
    · have hlen2 : (k : Int) < (m : Int) + 1 := by omega
      have V : Hid (v = false) := Lib.hid (by rw [hv2]; simp; omega)
      clear hv2
      go_wp2_with fail
      go_ret
      exact ⟨ret_bool V.out.symm, bb⟩
  · have hv2 := matchW_no HW.out HH.out (by rw [List.getElem?_eq_getElem hmW]; intro h; injection h with h; exact hst h)
    rw [HV.out] at hv2
    have hsl := stars_no _ hst
    generalize W[m] = x at *
    clear hst hmW
    by_cases hlen : m + 1 = k
    · subst hlen
      have V : Hid (matchL W H = v) := Lib.hid (by rw [hv2]; simp)
      clear hv2
      go_wp2_with fail
      go_loopw [8] (fun i wr => ∃ (j q : Nat), j ≤ m + 1 ∧ i = .int .i64 (j : Int) ∧ wr = w2.drewN q ∧ Hid (matchL (W.drop j) (H.drop j) = v)) (fun i _ => m + 2 - (intOf i).toNat)
      case atStart => exact ⟨0, 0, by omega, rfl, rfl, by simpa using V⟩
      case round =>
        obtain ⟨j, q, hj, rfl, rfl, hM⟩ := hrel
        by_cases hlt : j < m + 1
        · have hlt' : (j : Int) < (m : Int) + 1 := by omega
          have ha : j < W.length := by rw [HW.out]; exact hlt
          have hb : j < H.length := by rw [HH.out]; exact hlt
          have hca := CW.out.drewN q j ha
          have hcb := CH.out.drewN q j hb
          have hstp := matchL_step _ _ j ha hb
          rw [hM.out] at hstp
          generalize W[j] = a at *
          generalize H[j] = b at *
          clear ha hb hM
          generalize hwq : w2.drewN q = wq at *
          have WQ := Lib.hid hwq
          clear hwq
          by_cases h1 : a = STAR
          · subst h1
            have NX : Hid (matchL (W.drop (j + 1)) (H.drop (j + 1)) = v) := Lib.hid (by rw [hstp]; simp)
            have hsl1 := star_toList
            clear hstp
            go_wp2_with fail
            go_quiet (fail)
            go_wp2_with fail
            go_roundw
            case rel => exact ⟨j + 1, q + nq, by omega, by go_num, by rw [← WQ.out, World.drewN_drewN], NX⟩
            case measure => simp [intOf]; omega
          · have hs := star_no a h1
            by_cases h2 : a = b
            · subst h2
              have NX : Hid (matchL (W.drop (j + 1)) (H.drop (j + 1)) = v) := Lib.hid (by rw [hstp]; simp)
              clear hstp h1
              go_wp2_with fail
              go_quiet (fail)
              go_wp2_with fail
              go_roundw
              case rel => exact ⟨j + 1, q + nq, by omega, by go_num, by rw [← WQ.out, World.drewN_drewN], NX⟩
              case measure => simp [intOf]; omega
            · have ht := texts_no a b h2
              have V2 : Hid (v = false) := Lib.hid (by rw [hstp]; simp [h1, h2])
              clear hstp h1 h2
              go_wp2_with fail
              go_quiet (fail)
              go_wp2_with fail
              go_ret
              exact ⟨ret_bool V2.out.symm, by rw [← WQ.out]; exact drewN_below (drewN_below bb _) _⟩
        · have hm2 := hM.out
          rw [matchL_end _ _ j (by rw [HW.out]; omega)] at hm2
          have V2 := Lib.hid hm2
          have hlt' : (m : Int) + 1 ≤ (j : Int) := by omega
          clear hm2 hM hlt
          go_wp2_with fail
          go_ret
          exact ⟨ret_bool V2.out, drewN_below bb _⟩
    · have hne : ((k : Int) != (m : Int) + 1) = true := by simp; omega
      have V : Hid (v = false) := Lib.hid (by rw [hv2]; simp [hlen])
      clear hv2 hlen
      go_wp2_with fail
      go_ret
      exact ⟨ret_bool V.out.symm, bb⟩
theorem refMatch_any (p s : ByteArray) (w : World) (hp : p.size ≤ 1048576) (hs : s.size ≤ 1048576) :
    Calls Try.prog 21 #[.string p, .string s] w fun e w' => e = .returned (.bool (matchB p s)) ∧ Below w.heap.size w w' := by
  have h1 := partsL_pos p
  have h2 := partsL_length p
  have h3 := partsL_length s
  exact refMatch_walk p s (partsL p) (partsL s) ((partsL p).length - 1) _ _ w hp hs (Lib.hid rfl) (Lib.hid rfl) (by omega) rfl (by omega) (by omega) rfl
end Go.Proofs.Ytjcodjdhomhlpaa
