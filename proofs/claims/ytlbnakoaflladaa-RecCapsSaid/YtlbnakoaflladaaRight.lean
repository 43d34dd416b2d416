/-
  label.Right.
-/
import Derived.Test.YtlbnakoaflladaaLabel
namespace Go.Proofs.Ytlbnakoaflladaa
open Go.RowKit
set_option linter.unusedVariables false

/-- From c runes on, the last of which was 'last': how many, and the last one; or none. -/
def rgo : List Nat → Nat → Nat → Option (Nat × Nat)
  | [], c, last => some (c, last)
  | r :: l, c, last => if okR r = false ∨ (c = 0 ∧ edgeR r = false) ∨ (r = 46 ∧ last = 46) then none else rgo l (c + 1) r
def rfin : Option (Nat × Nat) → Bool
  | none => false
  | some (c, last) => decide (c ≤ 16) && edgeR last
def rightB (s : ByteArray) : Bool := decide (1 ≤ s.size ∧ s.size ≤ 32) && rfin (rgo (RS s 0) 0 0)
theorem rightB_in (s : ByteArray) (h1 : 1 ≤ s.size) (h2 : s.size ≤ 32) : rightB s = rfin (rgo (RS s 0) 0 0) := by
  unfold rightB; simp [h1, h2]
set_option maxHeartbeats 400000 in
theorem right_none (s : ByteArray) (w : World) (h : s.size = 0) :
    Calls Try.prog 46 #[.string s] w fun e w' => e = .returned (.bool false) ∧ Below w.heap.size w w' := by
  have he : s.toList = [] := empty_list s h
  have h2 : s.toList.isEmpty = true := by rw [he]; rfl
  clear h
  go_enter Try.func46, Try.ntmps46
  go_wp2_with fail
  go_ret
  exact ⟨rfl, Below.refl _ _⟩
set_option maxHeartbeats 400000 in
theorem right_long (s : ByteArray) (w : World) (h : 32 < s.size) (hs : s.size ≤ 140737488351232) :
    Calls Try.prog 46 #[.string s] w fun e w' => e = .returned (.bool false) ∧ Below w.heap.size w w' := by
  have he : s.toList.isEmpty = false := nonempty s (by omega)
  have hl : (32 : Int) < (s.size : Int) := by omega
  clear h
  go_enter Try.func46, Try.ntmps46
  go_wp2_with fail
  go_ret
  exact ⟨rfl, Below.refl _ _⟩
set_option maxHeartbeats 3200000 in
theorem right_walk (s : ByteArray) (v : Bool) (w : World) (h1 : 1 ≤ s.size) (h2 : s.size ≤ 32) (hv : rfin (rgo (RS s 0) 0 0) = v) :
    Calls Try.prog 46 #[.string s] w fun e w' => e = .returned (.bool v) ∧ Below w.heap.size w w' := by
  have he : s.toList.isEmpty = false := nonempty s (by omega)
  have hl : ¬ (32 : Int) < (s.size : Int) := by omega
  have HV := Lib.hid hv
  clear hv
  go_enter Try.func46, Try.ntmps46
  go_wp2_with fail
  go_loopw [3, 4, 16] (fun c t _ wr => ∃ (k n r : Nat), k ≤ s.size ∧ c = .int .i64 (n : Int) ∧ t = .int .i32 (r : Int) ∧ n ≤ k ∧ r ≤ 1114111 ∧ Hid (rfin (rgo (RS s k) n r) = v) ∧ wr.heap[w.heap.size]? = some (.stringIter s k) ∧ Below w.heap.size w wr) (fun _ _ _ wr => s.size - wr.iterPos w.heap.size)
  case atStart => exact ⟨0, 0, 0, by omega, rfl, rfl, by omega, by omega, HV, World.iter_heap _ _ _, (Below.refl _ _).alloc (Nat.le_refl _) _⟩
  case round =>
    obtain ⟨k, n, r, hk, rfl, rfl, hn, hr, hg, hit, hbw⟩ := hrel
    have IT := Lib.hid hit
    by_cases hlt : k < s.size
    · have hnext := fun ty => next_rune wr w.heap.size s k ty IT.out hlt
      have hit2 := Lib.hid (Lib.iterAt_heap wr w.heap.size s k (k + sW s k) IT.out)
      have hbw2 : Below w.heap.size w (wr.iterAt w.heap.size s (k + sW s k)) := Lib.below_iterAt hbw (Nat.le_refl _) s _
      have hW := sW_le s k hlt
      have hW1 := sW_pos s k
      have IP := Lib.hid (iterPos_of IT.out)
      have IQ := Lib.hid (iterPos_of hit2.out)
      have hst := RS_step s k hlt
      have hx := sR_le s k
      generalize sR s k = x at *
      have hg2 := hg.out
      rw [hst, rgo] at hg2
      clear hit hst hg
      by_cases hbad : okR x = false
      · rw [if_pos (.inl hbad)] at hg2
        have HG := Lib.hid hg2
        have HB := Lib.hid hbad
        clear hg2 hbad
        go_wp2_with fail
        refine (allowed_is _ false _ hx HB.out).mono ?_
        rintro e w9 ⟨rfl, rfl⟩
        go_wp2_with fail
        go_ret
        exact ⟨ret_bool HG.out, hbw2⟩
      · have hok : okR x = true := by simpa using hbad
        have HO := Lib.hid hok
        clear hbad
        by_cases h0 : n = 0
        · subst h0
          by_cases hed : edgeR x = false
          · rw [if_pos (.inr (.inl ⟨rfl, hed⟩))] at hg2
            have HG := Lib.hid hg2
            have HE := Lib.hid hed
            clear hg2 hed hok
            go_wp2_with fail
            refine (allowed_is _ true _ hx HO.out).mono ?_
            rintro e w9 ⟨rfl, rfl⟩
            go_wp2_with fail
            refine (edge_is _ false _ hx HE.out).mono ?_
            rintro e w9 ⟨rfl, rfl⟩
            go_wp2_with fail
            go_ret
            exact ⟨ret_bool HG.out, hbw2⟩
          · have hed2 : edgeR x = true := by simpa using hed
            have hx2 : x ≠ 46 := by intro e; subst e; simp [edgeR] at hed2
            rw [if_neg (by rintro (h | ⟨_, h⟩ | ⟨h, _⟩); rw [hok] at h; cases h; exact hed h; exact hx2 h)] at hg2
            have HG := Lib.hid hg2
            have HE := Lib.hid hed2
            have hq : ((x : Int) == 46) = false := by simp; omega
            clear hg2 hed hed2 hok hx2
            go_wp2_with fail
            refine (allowed_is _ true _ hx HO.out).mono ?_
            rintro e w9 ⟨rfl, rfl⟩
            go_wp2_with fail
            refine (edge_is _ true _ hx HE.out).mono ?_
            rintro e w9 ⟨rfl, rfl⟩
            go_wp2_with fail
            go_roundw
            case rel => exact ⟨k + sW s k, 1, x, hW, by go_num, rfl, by omega, hx, HG, hit2.out, hbw2⟩
            case measure => rw [IP.out, IQ.out]; omega
        · have hn0 : ((n : Int) == 0) = false := by simp; omega
          have hnp : 0 < (n : Int) := by omega
          by_cases hx2 : x = 46
          · subst hx2
            by_cases hr2 : r = 46
            · subst hr2
              rw [if_pos (.inr (.inr ⟨rfl, rfl⟩))] at hg2
              have HG := Lib.hid hg2
              clear hg2 hok
              go_wp2_with fail
              refine (allowed_is 46 true _ (by omega) HO.out).mono ?_
              rintro e w9 ⟨rfl, rfl⟩
              go_wp2_with fail
              go_ret
              exact ⟨ret_bool HG.out, hbw2⟩
            · rw [if_neg (by rintro (h | ⟨h, _⟩ | ⟨_, h⟩); rw [hok] at h; cases h; exact h0 h; exact hr2 h)] at hg2
              have HG := Lib.hid hg2
              have hq : ((r : Int) == 46) = false := by simp; omega
              clear hg2 hok hr2 h0
              go_wp2_with fail
              refine (allowed_is 46 true _ (by omega) HO.out).mono ?_
              rintro e w9 ⟨rfl, rfl⟩
              go_wp2_with fail
              go_roundw
              case rel => exact ⟨k + sW s k, n + 1, 46, hW, by go_num, rfl, by omega, by omega, HG, hit2.out, hbw2⟩
              case measure => rw [IP.out, IQ.out]; omega
          · rw [if_neg (by rintro (h | ⟨h, _⟩ | ⟨h, _⟩); rw [hok] at h; cases h; exact h0 h; exact hx2 h)] at hg2
            have HG := Lib.hid hg2
            have hq : ((x : Int) == 46) = false := by simp; omega
            clear hg2 hok hx2 h0
            go_wp2_with fail
            refine (allowed_is _ true _ hx HO.out).mono ?_
            rintro e w9 ⟨rfl, rfl⟩
            go_wp2_with fail
            go_roundw
            case rel => exact ⟨k + sW s k, n + 1, x, hW, by go_num, rfl, by omega, hx, HG, hit2.out, hbw2⟩
            case measure => rw [IP.out, IQ.out]; omega
    · have hend := fun ty => Lib.run_next_end_at (P := Try.prog) wr w.heap.size s k ty IT.out (by omega)
      have hg2 := hg.out
      rw [RS_end s k (by omega), rgo, rfin] at hg2
      clear hit hg
      by_cases hc : n ≤ 16
      · have hc' : (n : Int) ≤ 16 := by omega
        have HG : Hid (edgeR r = v) := Lib.hid (by simpa [hc] using hg2)
        clear hg2
        go_wp2_with fail
        refine (edge_is _ v _ hr HG.out).mono ?_
        rintro e w9 ⟨rfl, rfl⟩
        go_wp2_with fail
        go_ret
        exact ⟨rfl, hbw⟩
      · have hc' : ¬ (n : Int) ≤ 16 := by omega
        have HG : Hid (false = v) := Lib.hid (by simpa [hc] using hg2)
        clear hg2
        go_wp2_with fail
        go_ret
        exact ⟨ret_bool HG.out, hbw⟩
theorem right_any (s : ByteArray) (w : World) (hs : s.size ≤ 140737488351232) :
    Calls Try.prog 46 #[.string s] w fun e w' => e = .returned (.bool (rightB s)) ∧ Below w.heap.size w w' := by
  by_cases h1 : 1 ≤ s.size
  · by_cases h2 : s.size ≤ 32
    · exact right_walk s _ w h1 h2 (rightB_in s h1 h2).symm
    · have e : rightB s = false := by unfold rightB; simp; omega
      rw [e]; exact right_long s w (by omega) hs
  · have e : rightB s = false := by unfold rightB; simp; omega
    rw [e]; exact right_none s w (by omega)
end Go.Proofs.Ytlbnakoaflladaa
