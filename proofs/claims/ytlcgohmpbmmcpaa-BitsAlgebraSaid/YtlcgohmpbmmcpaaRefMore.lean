/-
  The document's Count, Join, Less.
-/
import Derived.Test.YtlcgohmpbmmcpaaMerge
import Derived.Test.YtlcgohmpbmmcpaaRefWith
import Derived.Test.YtlcgohmpbmmcpaaBitsFacts
namespace Go.Proofs.Ytlcgohmpbmmcpaa
open Go.RowKit
set_option linter.unusedVariables false

/-- How many of the first i numbers are in. -/
def cntU (l : List UInt8) : Nat → Nat
  | 0 => 0
  | i + 1 => cntU l i + (if bitL l i then 1 else 0)
theorem cntU_le (l : List UInt8) (i : Nat) : cntU l i ≤ i := by
  induction i with
  | zero => exact Nat.le_refl _
  | succ i ih => simp only [cntU]; split <;> omega
theorem cntU_cons (c : UInt8) (l : List UInt8) (i : Nat) : cntU (c :: l) (i + 8) = pc 8 c.toNat + cntU l i := by
  induction i with
  | zero =>
    have h : ∀ c : Fin 256, ((if c.val.testBit 0 then 1 else 0) + (if c.val.testBit 1 then 1 else 0) + (if c.val.testBit 2 then 1 else 0) + (if c.val.testBit 3 then 1 else 0) + (if c.val.testBit 4 then 1 else 0) + (if c.val.testBit 5 then 1 else 0) + (if c.val.testBit 6 then 1 else 0) + (if c.val.testBit 7 then 1 else 0) : Nat) = pc 8 c.val := by decide +kernel
    have hb : ∀ k, k < 8 → bitL (c :: l) k = c.toNat.testBit k := fun k hk => by
      rw [bitL_getD, show k / 8 = 0 by omega, show k % 8 = k by omega]
      simp
    have := h ⟨c.toNat, UInt8.toNat_lt c⟩
    simp only at this
    simp only [cntU, Nat.zero_add, hb 0 (by omega), hb 1 (by omega), hb 2 (by omega), hb 3 (by omega), hb 4 (by omega), hb 5 (by omega), hb 6 (by omega), hb 7 (by omega)]
    rw [← this]
    rfl
  | succ i ih =>
    have hb : bitL (c :: l) (i + 8) = bitL l i := by
      rw [bitL_getD, bitL_getD, show (i + 8) / 8 = i / 8 + 1 by omega, show (i + 8) % 8 = i % 8 by omega]
      simp
    have e : ∀ m k, cntU m (k + 1) = cntU m k + (if bitL m k then 1 else 0) := fun _ _ => rfl
    rw [show i + 1 + 8 = (i + 8) + 1 by omega, e, ih, hb, e]
    omega
theorem cntU_all (l : List UInt8) : cntU l (8 * l.length) = cntL l := by
  induction l with
  | nil => rfl
  | cons c l ih =>
    rw [List.length_cons, show 8 * (l.length + 1) = 8 * l.length + 8 by omega, cntU_cons, ih]
    simp [cntL]
theorem cntU_step (b : ByteArray) (i : Nat) (v : Bool) (h : hasB b (i : Int) = v) : cntU b.data.toList (i + 1) = cntU b.data.toList i + (if v then 1 else 0) := by
  have : bitL b.data.toList i = v := by simpa [hasB] using h
  simp only [cntU, this]
set_option maxHeartbeats 800000 in
theorem refCount_any (b : ByteArray) (w : World) (hb : b.size ≤ 140737488351232) :
    Calls Try.prog 24 #[.string b] w fun e w' => e = .returned (.int .i64 (cntL b.data.toList : Int)) ∧ w = w' := by
  have FIN := Lib.hid (cntU_all b.data.toList)
  have hlen : b.data.toList.length = b.size := by simp
  rw [hlen] at FIN
  clear hlen
  go_enter Try.func24, Try.ntmps24
  go_wp2_with fail
  go_loop [3, 4] (fun n i => ∃ j : Nat, i = .int .i64 (j : Int) ∧ n = .int .i64 (cntU b.data.toList j : Int) ∧ j ≤ 8 * b.size) (fun _ i => 8 * b.size + 1 - (intOf i).toNat)
  case atStart => exact ⟨0, rfl, rfl, by omega⟩
  case round =>
    obtain ⟨j, rfl, rfl, hj⟩ := hrel
    by_cases hlt : (j : Int) < 8 * (b.size : Int)
    · have hle := cntU_le b.data.toList j
      cases hv : hasB b (j : Int)
      · have ST := Lib.hid (cntU_step b j _ hv)
        have HV := Lib.hid hv
        clear hv
        generalize cntU b.data.toList j = q at *
        go_wp2_with fail
        refine (refHas_any _ _ _ (by omega)).mono ?_
        rw [HV.out]
        rintro e w1 ⟨rfl, rfl⟩
        go_wp2_with fail
        go_round
        case rel => exact ⟨j + 1, by go_num, by rw [ST.out]; rfl, by omega⟩
        case measure => simp [intOf]; omega
      · have ST := Lib.hid (cntU_step b j _ hv)
        have HV := Lib.hid hv
        clear hv
        generalize cntU b.data.toList j = q at *
        go_wp2_with fail
        refine (refHas_any _ _ _ (by omega)).mono ?_
        rw [HV.out]
        rintro e w1 ⟨rfl, rfl⟩
        go_wp2_with fail
        go_round
        case rel => exact ⟨j + 1, by go_num, by rw [ST.out]; go_num, by omega⟩
        case measure => simp [intOf]; omega
    · obtain rfl : j = 8 * b.size := by omega
      have hE := FIN.out
      go_wp2_with fail
      go_ret
      exact ⟨rfl, rfl⟩

/-- The first i numbers done. -/
def DoneTo (a b c : ByteArray) (g : Bool → Bool → Bool) (i : Nat) : Prop := c.size = a.size ∧ ∀ t : Nat, t < 8 * a.size → hasB c (t : Int) = if t < i then g (hasB a (t : Int)) (hasB b (t : Int)) else hasB a (t : Int)
theorem done_step (a b c : ByteArray) (g : Bool → Bool → Bool) (i : Nat) (on : Bool) (hg : ∀ x, g x true = on) (h : DoneTo a b c g i) (hi : i < 8 * a.size) (hb : hasB b (i : Int) = true) : DoneTo a b (withB c (i : Int) on) g (i + 1) := by
  refine ⟨by rw [withB_size]; exact h.1, fun t ht => ?_⟩
  have hr : roomB c (i : Int) = true := (room_iff c _).2 ⟨by omega, by rw [h.1]; omega⟩
  rw [has_with c _ _ _ hr, h.2 t ht]
  by_cases e : t = i
  · subst e
    rw [if_pos rfl, if_pos (by omega), hb, hg]
  · rw [if_neg (by omega)]
    by_cases e2 : t < i
    · rw [if_pos e2, if_pos (by omega)]
    · rw [if_neg e2, if_neg (by omega)]
theorem done_skip (a b c : ByteArray) (g : Bool → Bool → Bool) (i : Nat) (hg : ∀ x, g x false = x) (h : DoneTo a b c g i) (hb : hasB b (i : Int) = false) : DoneTo a b c g (i + 1) := by
  refine ⟨h.1, fun t ht => ?_⟩
  rw [h.2 t ht]
  by_cases e : t = i
  · subst e
    rw [if_neg (by omega), if_pos (by omega), hb, hg]
  · by_cases e2 : t < i
    · rw [if_pos e2, if_pos (by omega)]
    · rw [if_neg e2, if_neg (by omega)]
theorem done_zero (a b : ByteArray) (g : Bool → Bool → Bool) : DoneTo a b a g 0 := ⟨rfl, fun t ht => by rw [if_neg (by omega)]⟩
theorem done_join (a b c : ByteArray) (h : DoneTo a b c (· || ·) (8 * a.size)) : c = mergeB (· ||| ·) a b :=
  bits_ext (by rw [h.1, mergeB_size]) fun i hi => by
    rw [h.1] at hi
    rw [h.2 i hi, if_pos hi, has_join a b i hi]
theorem done_less (a b c : ByteArray) (h : DoneTo a b c (fun x y => x && !y) (8 * a.size)) : c = mergeB lessN a b :=
  bits_ext (by rw [h.1, mergeB_size]) fun i hi => by
    rw [h.1] at hi
    rw [h.2 i hi, if_pos hi, has_less a b i hi]
set_option maxHeartbeats 800000 in
theorem refJoin_any (a b : ByteArray) (w : World) (ha : a.size ≤ 140737488351232) (hb : b.size ≤ 140737488351232) :
    Calls Try.prog 20 #[.string a, .string b] w fun e w' => e = .returned (.string (mergeB (· ||| ·) a b)) ∧ Below w.heap.size w w' := by
  go_enter Try.func20, Try.ntmps20
  go_wp2_with fail
  go_loopw [0, 5] (fun v i wr => ∃ (j : Nat) (c : ByteArray), i = .int .i64 (j : Int) ∧ v = .string c ∧ j ≤ 8 * a.size ∧ c.size = a.size ∧ Hid (DoneTo a b c (· || ·) j) ∧ Below w.heap.size w wr) (fun _ i _ => 8 * a.size + 1 - (intOf i).toNat)
  case atStart => exact ⟨0, a, rfl, rfl, by omega, rfl, Lib.hid (done_zero a b _), Below.refl _ _⟩
  case round =>
    obtain ⟨j, c, rfl, rfl, hj, hcs, hd, hbw⟩ := hrel
    by_cases hlt : (j : Int) < 8 * (c.size : Int)
    · cases hv : hasB b (j : Int)
      · have NX := Lib.hid (done_skip a b c _ j (fun x => Bool.or_false x) hd.out hv)
        have HV := Lib.hid hv
        have CS := Lib.hid hcs
        have ha2 : c.size ≤ 140737488351232 := by omega
        clear hv hcs
        go_wp2_with fail
        refine (refHas_any _ _ _ (by omega)).mono ?_
        rw [HV.out]
        rintro e w1 ⟨rfl, rfl⟩
        go_wp2_with fail
        go_roundw
        case rel => exact ⟨j + 1, c, by go_num, rfl, by have := CS.out; omega, CS.out, NX, hbw⟩
        case measure => simp [intOf]; have := CS.out; omega
      · have NX := Lib.hid (done_step a b c _ j true (fun x => Bool.or_true x) hd.out (by omega) hv)
        have NS := Lib.hid (withB_size c (j : Int) true)
        have HV := Lib.hid hv
        have CS := Lib.hid hcs
        have ha2 : c.size ≤ 140737488351232 := by omega
        clear hv hcs
        go_wp2_with fail
        refine (refHas_any _ _ _ (by omega)).mono ?_
        rw [HV.out]
        rintro e w1 ⟨rfl, rfl⟩
        go_wp2_with fail
        refine (refWith_any _ _ _ _ (by omega)).mono ?_
        rintro e w2 ⟨rfl, b2⟩
        replace hbw := chain hbw b2
        clear b2
        go_wp2_with fail
        go_roundw
        case rel => exact ⟨j + 1, _, by go_num, rfl, by have := CS.out; omega, by rw [NS.out]; exact CS.out, NX, hbw⟩
        case measure => simp [intOf]; have := CS.out; omega
    · have E := Lib.hid (done_join a b c (by have := hd.out; rwa [show j = 8 * a.size by omega] at this))
      have ha2 : c.size ≤ 140737488351232 := by omega
      clear hcs
      go_wp2_with fail
      go_ret
      exact ⟨by rw [E.out]; rfl, hbw⟩
set_option maxHeartbeats 800000 in
theorem refLess_any (a b : ByteArray) (w : World) (ha : a.size ≤ 140737488351232) (hb : b.size ≤ 140737488351232) :
    Calls Try.prog 22 #[.string a, .string b] w fun e w' => e = .returned (.string (mergeB lessN a b)) ∧ Below w.heap.size w w' := by
  go_enter Try.func22, Try.ntmps22
  go_wp2_with fail
  go_loopw [0, 5] (fun v i wr => ∃ (j : Nat) (c : ByteArray), i = .int .i64 (j : Int) ∧ v = .string c ∧ j ≤ 8 * a.size ∧ c.size = a.size ∧ Hid (DoneTo a b c (fun x y => x && !y) j) ∧ Below w.heap.size w wr) (fun _ i _ => 8 * a.size + 1 - (intOf i).toNat)
  case atStart => exact ⟨0, a, rfl, rfl, by omega, rfl, Lib.hid (done_zero a b _), Below.refl _ _⟩
  case round =>
    obtain ⟨j, c, rfl, rfl, hj, hcs, hd, hbw⟩ := hrel
    by_cases hlt : (j : Int) < 8 * (c.size : Int)
    · cases hv : hasB b (j : Int)
      · have NX := Lib.hid (done_skip a b c _ j (fun x => by simp) hd.out hv)
        have HV := Lib.hid hv
        have CS := Lib.hid hcs
        have ha2 : c.size ≤ 140737488351232 := by omega
        clear hv hcs
        go_wp2_with fail
        refine (refHas_any _ _ _ (by omega)).mono ?_
        rw [HV.out]
        rintro e w1 ⟨rfl, rfl⟩
        go_wp2_with fail
        go_roundw
        case rel => exact ⟨j + 1, c, by go_num, rfl, by have := CS.out; omega, CS.out, NX, hbw⟩
        case measure => simp [intOf]; have := CS.out; omega
      · have NX := Lib.hid (done_step a b c _ j false (fun x => by simp) hd.out (by omega) hv)
        have NS := Lib.hid (withB_size c (j : Int) false)
        have HV := Lib.hid hv
        have CS := Lib.hid hcs
        have ha2 : c.size ≤ 140737488351232 := by omega
        clear hv hcs
        go_wp2_with fail
        refine (refHas_any _ _ _ (by omega)).mono ?_
        rw [HV.out]
        rintro e w1 ⟨rfl, rfl⟩
        go_wp2_with fail
        refine (refWith_any _ _ _ _ (by omega)).mono ?_
        rintro e w2 ⟨rfl, b2⟩
        replace hbw := chain hbw b2
        clear b2
        go_wp2_with fail
        go_roundw
        case rel => exact ⟨j + 1, _, by go_num, rfl, by have := CS.out; omega, by rw [NS.out]; exact CS.out, NX, hbw⟩
        case measure => simp [intOf]; have := CS.out; omega
    · have E := Lib.hid (done_less a b c (by have := hd.out; rwa [show j = 8 * a.size by omega] at this))
      have ha2 : c.size ≤ 140737488351232 := by omega
      clear hcs
      go_wp2_with fail
      go_ret
      exact ⟨by rw [E.out]; rfl, hbw⟩
end Go.Proofs.Ytlcgohmpbmmcpaa
