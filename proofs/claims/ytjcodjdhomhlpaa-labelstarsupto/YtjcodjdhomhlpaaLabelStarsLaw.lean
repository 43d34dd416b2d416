import Derived.Test.YtjcodjdhomhlpaaLabelPartsLaw
namespace Go.Proofs.Ytjcodjdhomhlpaa
open Go.RowKit
set_option linter.unusedVariables false

/-- k stars with points between, as bytes. -/
def stB : Nat → List UInt8
  | 0 => []
  | k + 1 => if k = 0 then [42] else stB k ++ [46, 42]
theorem spl_append_point (a m cur : List UInt8) : spl (a ++ 46 :: m) cur = spl a cur ++ spl m [] := by
  induction a generalizing cur with
  | nil => simp [spl]
  | cons c a ih =>
    rw [List.cons_append, spl, spl]
    by_cases h : c = 46
    · rw [if_pos h, if_pos h, ih]; rfl
    · rw [if_neg h, if_neg h, ih]
theorem spl_stB (k : Nat) : spl (stB (k + 1)) [] = List.replicate (k + 1) [42] := by
  induction k with
  | zero => decide
  | succ k ih =>
    have : stB (k + 1 + 1) = stB (k + 1) ++ 46 :: [42] := by rw [stB, if_neg (by omega)]
    rw [this, spl_append_point, ih, show spl [42] [] = [[42]] by decide, ← List.replicate_succ']
theorem parts_stars (k : Nat) (h : 1 ≤ k) : partsL (Str (stB k)) = List.replicate k STAR := by
  obtain ⟨j, rfl⟩ : ∃ j, k = j + 1 := ⟨k - 1, by omega⟩
  unfold partsL
  rw [Str_list, spl_stB, List.map_replicate]
  rfl
theorem parts_two (k : Nat) (h : 1 ≤ k) : partsL (Str (stB k) ++ ⟨#[46, 42, 42]⟩) = List.replicate k STAR ++ [STARS] := by
  obtain ⟨j, rfl⟩ : ∃ j, k = j + 1 := ⟨k - 1, by omega⟩
  unfold partsL
  rw [Str_append, Str_list]
  show (spl (stB (j + 1) ++ 46 :: [42, 42]) []).map Str = _
  rw [spl_append_point, spl_stB, show spl [42, 42] [] = [[42, 42]] by decide, List.map_append, List.map_replicate]
  rfl
theorem matchL_stars (k : Nat) (H : List ByteArray) : matchL (List.replicate k STAR) H = true := by
  induction k generalizing H with
  | zero => cases H <;> rfl
  | succ k ih =>
    rw [List.replicate_succ]
    cases H with
    | nil => rfl
    | cons b H => rw [matchL, ih]; simp
theorem star_ne : STAR ≠ STARS := by decide
theorem match_stars (k : Nat) (t : ByteArray) (h : 1 ≤ k) : matchB (Str (stB k)) t = decide (k = (partsL t).length) := by
  unfold matchB
  rw [parts_stars k h, matchW_no (m := k - 1) (k := (partsL t).length) (by rw [List.length_replicate]; omega) rfl, matchL_stars, Bool.and_true]
  · rw [show k - 1 + 1 = k by omega]
  · rw [List.getElem?_replicate, if_pos (by omega)]
    intro e
    exact star_ne (Option.some.inj e)
theorem match_two (k : Nat) (t : ByteArray) (h : 1 ≤ k) : matchB (Str (stB k) ++ ⟨#[46, 42, 42]⟩) t = decide (k < (partsL t).length) := by
  unfold matchB
  rw [parts_two k h, matchW_yes (m := k) (k := (partsL t).length) (by simp) rfl (by simp)]
  have : (List.replicate k STAR ++ [STARS]).take k = List.replicate k STAR := by rw [List.take_left' (by simp)]
  rw [this, matchL_stars, Bool.and_true]
  rfl
def starL (L : List ByteArray) : Bool := L.any fun a => decide (a = STAR) || decide (a = STARS)
theorem matchL_eq (A B : List ByteArray) (hl : A.length = B.length) (h : starL A = false) : matchL A B = true ↔ A = B := by
  induction A generalizing B with
  | nil =>
    cases B with
    | nil => simp [matchL]
    | cons b B => simp at hl
  | cons a A ih =>
    cases B with
    | nil => simp at hl
    | cons b B =>
      unfold starL at h ih
      simp only [List.any_cons, Bool.or_eq_false_iff, decide_eq_false_iff_not] at h
      rw [matchL]
      simp only [Bool.and_eq_true, Bool.or_eq_true, decide_eq_true_eq, List.cons.injEq]
      rw [ih B (by simpa using hl) h.2]
      constructor
      · rintro ⟨h1 | h1, h2⟩
        · exact absurd h1 h.1.1
        · exact ⟨h1, h2⟩
      · rintro ⟨h1, h2⟩
        exact ⟨.inr h1, h2⟩
theorem parts_inj (s t : ByteArray) (h : partsL s = partsL t) : s = t := by
  have h1 := pre_end s ((partsL s).length) (Nat.le_refl _)
  have h2 := pre_end t ((partsL s).length) (by rw [h]; exact Nat.le_refl _)
  rw [← h] at h2
  rw [← h1, ← h2]
theorem match_own (s t : ByteArray) (h : starL (partsL s) = false) : matchB s t = decide (s = t) := by
  have hp := partsL_pos s
  unfold matchB
  rw [matchW_no (m := (partsL s).length - 1) (k := (partsL t).length) (by omega) rfl]
  · rw [show (partsL s).length - 1 + 1 = (partsL s).length by omega, Bool.eq_iff_iff]
    simp only [Bool.and_eq_true, decide_eq_true_eq]
    constructor
    · rintro ⟨h1, h2⟩
      exact parts_inj s t ((matchL_eq _ _ h1 h).1 h2)
    · rintro rfl
      exact ⟨rfl, (matchL_eq _ _ rfl h).2 rfl⟩
  · rw [List.getElem?_eq_getElem (show (partsL s).length - 1 < (partsL s).length by omega)]
    intro e
    have e2 := Option.some.inj e
    unfold starL at h
    rw [List.any_eq_false] at h
    exact h _ (List.getElem_mem (show (partsL s).length - 1 < (partsL s).length by omega)) (by rw [e2]; simp)
theorem starL_snoc (L : List ByteArray) (j : Nat) (h : j < L.length) : starL (L.take (j + 1)) = (starL (L.take j) || (decide (L[j] = STAR) || decide (L[j] = STARS))) := by
  unfold starL
  rw [List.take_succ_eq_append_getElem h, List.any_append]
  simp
theorem stB_length (k : Nat) : (stB k).length ≤ 2 * k := by
  induction k with
  | zero => exact Nat.le_refl _
  | succ k ih => rw [stB]; split <;> simp <;> omega
theorem stars_star : (STARS.toList == [42]) = false := star_no _ (by decide)
set_option maxHeartbeats 6400000 in
theorem labelStars_b (s t c : ByteArray) (L : List ByteArray) (n k : Nat) (w : World) (hs : s.size ≤ 1048576) (ht : t.size ≤ 1048576) (hc : Hid (s.extract 0 40 = c)) (hbb : 40 < (s.size : Int)) (hcs : c.size ≤ 40) (PS : Hid (partsL c = L)) (hn : Hid (L.length = n)) (n1 : 1 ≤ n) (n2 : n ≤ 41) (hk : Hid ((partsL t).length = k)) (k2 : k ≤ 1048577) :
    Calls Try.prog 7 #[.string s, .string t] w fun e w' => e = .returned (.bool true) ∧ Below w.heap.size w w' := by
  go_enter Try.func7, Try.ntmps7
  try simp only [List.append_eq, List.cons_append, List.nil_append]
  go_wp2_with fail
  refine (examples_any _).mono ?_
  rintro e w1 ⟨rfl, bb⟩
  go_wp2_with fail
  rw [hc.out]
  refine (parts_any _ _ (by omega)).mono ?_
  rw [PS.out]
  rintro e w2 ⟨⟨g, cap, rfl, T1⟩, b1⟩
  rw [hn.out]
  have CW := Lib.hid T1.cells
  replace bb := chain bb b1
  clear b1 T1
  go_wp2_with fail
  go_loop [7, 8, 9] (fun st sp i => ∃ (j : Nat) (A : ByteArray), j ≤ n ∧ i = .int .i64 (j : Int) ∧ sp = .string A ∧ st = .bool (starL (L.take j)) ∧ A.size ≤ 2 * j ∧ Hid (A = Str (stB j))) (fun _ _ i => n + 1 - (intOf i).toNat)
  case atStart => exact ⟨0, _, by omega, rfl, rfl, rfl, by decide, Lib.hid rfl⟩
  case round =>
    obtain ⟨j, A, hj, rfl, rfl, rfl, hA, HA⟩ := hrel
    by_cases hlt : j < n
    · have hli : (j : Int) < (n : Int) := by omega
      have hjL : j < L.length := by rw [hn.out]; exact hlt
      have hcell := CW.out j hjL
      have hst := starL_snoc L j hjL
      have hst0 : ((L[j]).toList == [42]) = decide (L[j] = STAR) := by
        by_cases h : L[j] = STAR
        · rw [h, star_toList]; rfl
        · rw [star_no _ h]; simp [h]
      have hst1 : ((L[j]).toList == [42, 42]) = decide (L[j] = STARS) := by
        by_cases h : L[j] = STARS
        · rw [h, stars_toList]; rfl
        · rw [stars_no _ h]; simp [h]
      generalize decide (L[j] = STAR) = b1 at *
      generalize decide (L[j] = STARS) = b2 at *
      generalize L[j] = x at *
      generalize starL (L.take j) = b0 at *
      have NX : Hid ((if j = 0 then A ++ ⟨#[42]⟩ else A ++ ⟨#[46]⟩ ++ ⟨#[42]⟩) = Str (stB (j + 1))) := Lib.hid (by
        rw [HA.out, stB]
        by_cases h : j = 0
        · rw [if_pos h, if_pos h]; subst h; rfl
        · rw [if_neg h, if_neg h, Str_append, Str_append]; congr 1; simp)
      have q1 : (A ++ ⟨#[46]⟩).size ≤ 2 * j + 1 := by rw [ByteArray.size_append]; show _ + 1 ≤ _; omega
      have z1 : (A ++ ⟨#[42]⟩).size ≤ 2 * (j + 1) := by rw [ByteArray.size_append]; show _ + 1 ≤ _; omega
      have z2 : (A ++ ⟨#[46]⟩ ++ ⟨#[42]⟩).size ≤ 2 * (j + 1) := by rw [ByteArray.size_append]; show _ + 1 ≤ _; omega
      clear HA hjL
      rcases (show j = 0 ∨ 0 < j by omega) with h0 | h0
      · have h0' : (j : Int) ≤ 0 := by omega
        have NX2 : Hid (A ++ ⟨#[42]⟩ = Str (stB (j + 1))) := Lib.hid (by have := NX.out; rwa [if_pos h0] at this)
        clear h0 NX
        cases b0 <;> cases b1 <;> cases b2
        all_goals
          have ST := Lib.hid hst
          clear hst
          go_wp2_with fail
          go_round
          case rel => exact ⟨j + 1, _, by omega, by go_num, rfl, by rw [ST.out]; rfl, z1, NX2⟩
          case measure => simp [intOf]; omega
      · have h0' : 0 < (j : Int) := by omega
        have NX2 : Hid (A ++ ⟨#[46]⟩ ++ ⟨#[42]⟩ = Str (stB (j + 1))) := Lib.hid (by have := NX.out; rwa [if_neg (by omega)] at this)
        clear h0 NX
        cases b0 <;> cases b1 <;> cases b2
        all_goals
          have ST := Lib.hid hst
          clear hst
          go_wp2_with fail
          go_round
          case rel => exact ⟨j + 1, _, by omega, by go_num, rfl, by rw [ST.out]; rfl, z2, NX2⟩
          case measure => simp [intOf]; omega
    · have hli : (n : Int) ≤ (j : Int) := by omega
      have hjn : j = n := by omega
      have hfull : starL (L.take j) = starL L := by rw [List.take_of_length_le (by rw [hn.out]; omega)]
      rw [hfull]
      have OWN : Hid (starL L = false → matchB c t = decide (c = t)) := Lib.hid (by rw [← PS.out]; exact match_own c t)
      have M3 : Hid (matchB A c = true) := Lib.hid (by rw [HA.out, hjn, match_stars n c n1, PS.out, hn.out]; simp)
      have MT : matchB A t = decide (n = k) := by rw [HA.out, hjn, match_stars n t n1, hk.out]
      have MU : matchB (A ++ ⟨#[46, 42, 42]⟩) t = decide (n < k) := by rw [HA.out, hjn, match_two n t n1, hk.out]
      have O : (((k : Int) == (n : Int)) = false ∧ (n : Int) < (k : Int) ∧ Hid (matchB A t = false) ∧ Hid (matchB (A ++ ⟨#[46, 42, 42]⟩) t = true)) ∨ (((k : Int) == (n : Int)) = true ∧ (k : Int) ≤ (n : Int) ∧ Hid (matchB A t = true) ∧ Hid (matchB (A ++ ⟨#[46, 42, 42]⟩) t = false)) ∨ (((k : Int) == (n : Int)) = false ∧ (k : Int) ≤ (n : Int) ∧ Hid (matchB A t = false) ∧ Hid (matchB (A ++ ⟨#[46, 42, 42]⟩) t = false)) := by
        rcases Nat.lt_trichotomy n k with h | h | h
        · exact .inl ⟨by simp; omega, by omega, Lib.hid (by rw [MT]; simp; omega), Lib.hid (by rw [MU]; simp; omega)⟩
        · exact .inr (.inl ⟨by simp; omega, by omega, Lib.hid (by rw [MT]; simp; omega), Lib.hid (by rw [MU]; simp; omega)⟩)
        · exact .inr (.inr ⟨by simp; omega, by omega, Lib.hid (by rw [MT]; simp; omega), Lib.hid (by rw [MU]; simp; omega)⟩)
      clear MT MU
      have q1 : (A ++ ⟨#[46, 42, 42]⟩).size ≤ 100 := by rw [ByteArray.size_append]; show _ + 3 ≤ _; omega
      have hA2 : A.size ≤ 82 := by omega
      clear HA hfull hlt
      cases hsl : starL L
      · have hB : matchB c t = decide (c = t) := OWN.out hsl
        obtain ⟨v0, E0, B1⟩ : ∃ v0, (c.toList == t.toList) = v0 ∧ Hid (matchB c t = v0) := ⟨_, rfl, Lib.hid (by rw [hB, list_beq])⟩
        clear hB OWN hsl hjn
        cases v0 <;> rcases O with ⟨E1, l1, M1, M2⟩ | ⟨E1, l1, M1, M2⟩ | ⟨E1, l1, M1, M2⟩
        all_goals
          go_wp2_with fail
          refine (parts_any _ _ ht).mono ?_
          rintro e w3 ⟨⟨g2, cap2, rfl, T2⟩, b1⟩
          rw [hk.out]
          have HT2 := Lib.hid T2
          replace bb := chain bb b1
          clear b1 T2
          go_wp2_with fail
          refine (match_any _ _ _ (by omega) (by omega)).mono ?_
          rw [B1.out]
          rintro e w9 ⟨rfl, b9⟩
          replace bb := chain bb b9
          clear b9
          go_wp2_with fail
          refine (match_any _ _ _ (by omega) (by omega)).mono ?_
          rw [M1.out]
          rintro e w9 ⟨rfl, b9⟩
          replace bb := chain bb b9
          clear b9
          go_wp2_with fail
          refine (match_any _ _ _ (by omega) (by omega)).mono ?_
          rw [M2.out]
          rintro e w9 ⟨rfl, b9⟩
          replace bb := chain bb b9
          clear b9
          go_wp2_with fail
          refine (match_any _ _ _ (by omega) (by omega)).mono ?_
          rw [M3.out]
          rintro e w9 ⟨rfl, b9⟩
          replace bb := chain bb b9
          clear b9
          go_wp2_with fail
          go_ret
          refine ⟨ret_true ?_, bb⟩
          first | (simp; done) | (simp; omega)
      · clear OWN hsl hjn
        rcases O with ⟨E1, l1, M1, M2⟩ | ⟨E1, l1, M1, M2⟩ | ⟨E1, l1, M1, M2⟩
        all_goals
          go_wp2_with fail
          refine (parts_any _ _ ht).mono ?_
          rintro e w3 ⟨⟨g2, cap2, rfl, T2⟩, b1⟩
          rw [hk.out]
          have HT2 := Lib.hid T2
          replace bb := chain bb b1
          clear b1 T2
          go_wp2_with fail
          refine (match_any _ _ _ (by omega) (by omega)).mono ?_
          rw [M1.out]
          rintro e w9 ⟨rfl, b9⟩
          replace bb := chain bb b9
          clear b9
          go_wp2_with fail
          refine (match_any _ _ _ (by omega) (by omega)).mono ?_
          rw [M2.out]
          rintro e w9 ⟨rfl, b9⟩
          replace bb := chain bb b9
          clear b9
          go_wp2_with fail
          refine (match_any _ _ _ (by omega) (by omega)).mono ?_
          rw [M3.out]
          rintro e w9 ⟨rfl, b9⟩
          replace bb := chain bb b9
          clear b9
          go_wp2_with fail
          go_ret
          refine ⟨ret_true ?_, bb⟩
          first | (simp; done) | (simp; omega)
set_option maxHeartbeats 6400000 in
theorem labelStars_s (s t c : ByteArray) (L : List ByteArray) (n k : Nat) (w : World) (hs : s.size ≤ 1048576) (ht : t.size ≤ 1048576) (hbb : (s.size : Int) ≤ 40) (hcs : s.size ≤ 40) (PS : Hid (partsL s = L)) (hn : Hid (L.length = n)) (n1 : 1 ≤ n) (n2 : n ≤ 41) (hk : Hid ((partsL t).length = k)) (k2 : k ≤ 1048577) :
    Calls Try.prog 7 #[.string s, .string t] w fun e w' => e = .returned (.bool true) ∧ Below w.heap.size w w' := by
  go_enter Try.func7, Try.ntmps7
  try simp only [List.append_eq, List.cons_append, List.nil_append]
  go_wp2_with fail
  refine (examples_any _).mono ?_
  rintro e w1 ⟨rfl, bb⟩
  go_wp2_with fail
  refine (parts_any _ _ (by omega)).mono ?_
  rw [PS.out]
  rintro e w2 ⟨⟨g, cap, rfl, T1⟩, b1⟩
  rw [hn.out]
  have CW := Lib.hid T1.cells
  replace bb := chain bb b1
  clear b1 T1
  go_wp2_with fail
  go_loop [7, 8, 9] (fun st sp i => ∃ (j : Nat) (A : ByteArray), j ≤ n ∧ i = .int .i64 (j : Int) ∧ sp = .string A ∧ st = .bool (starL (L.take j)) ∧ A.size ≤ 2 * j ∧ Hid (A = Str (stB j))) (fun _ _ i => n + 1 - (intOf i).toNat)
  case atStart => exact ⟨0, _, by omega, rfl, rfl, rfl, by decide, Lib.hid rfl⟩
  case round =>
    obtain ⟨j, A, hj, rfl, rfl, rfl, hA, HA⟩ := hrel
    by_cases hlt : j < n
    · have hli : (j : Int) < (n : Int) := by omega
      have hjL : j < L.length := by rw [hn.out]; exact hlt
      have hcell := CW.out j hjL
      have hst := starL_snoc L j hjL
      have hst0 : ((L[j]).toList == [42]) = decide (L[j] = STAR) := by
        by_cases h : L[j] = STAR
        · rw [h, star_toList]; rfl
        · rw [star_no _ h]; simp [h]
      have hst1 : ((L[j]).toList == [42, 42]) = decide (L[j] = STARS) := by
        by_cases h : L[j] = STARS
        · rw [h, stars_toList]; rfl
        · rw [stars_no _ h]; simp [h]
      generalize decide (L[j] = STAR) = b1 at *
      generalize decide (L[j] = STARS) = b2 at *
      generalize L[j] = x at *
      generalize starL (L.take j) = b0 at *
      have NX : Hid ((if j = 0 then A ++ ⟨#[42]⟩ else A ++ ⟨#[46]⟩ ++ ⟨#[42]⟩) = Str (stB (j + 1))) := Lib.hid (by
        rw [HA.out, stB]
        by_cases h : j = 0
        · rw [if_pos h, if_pos h]; subst h; rfl
        · rw [if_neg h, if_neg h, Str_append, Str_append]; congr 1; simp)
      have q1 : (A ++ ⟨#[46]⟩).size ≤ 2 * j + 1 := by rw [ByteArray.size_append]; show _ + 1 ≤ _; omega
      have z1 : (A ++ ⟨#[42]⟩).size ≤ 2 * (j + 1) := by rw [ByteArray.size_append]; show _ + 1 ≤ _; omega
      have z2 : (A ++ ⟨#[46]⟩ ++ ⟨#[42]⟩).size ≤ 2 * (j + 1) := by rw [ByteArray.size_append]; show _ + 1 ≤ _; omega
      clear HA hjL
      rcases (show j = 0 ∨ 0 < j by omega) with h0 | h0
      · have h0' : (j : Int) ≤ 0 := by omega
        have NX2 : Hid (A ++ ⟨#[42]⟩ = Str (stB (j + 1))) := Lib.hid (by have := NX.out; rwa [if_pos h0] at this)
        clear h0 NX
        cases b0 <;> cases b1 <;> cases b2
        all_goals
          have ST := Lib.hid hst
          clear hst
          go_wp2_with fail
          go_round
          case rel => exact ⟨j + 1, _, by omega, by go_num, rfl, by rw [ST.out]; rfl, z1, NX2⟩
          case measure => simp [intOf]; omega
      · have h0' : 0 < (j : Int) := by omega
        have NX2 : Hid (A ++ ⟨#[46]⟩ ++ ⟨#[42]⟩ = Str (stB (j + 1))) := Lib.hid (by have := NX.out; rwa [if_neg (by omega)] at this)
        clear h0 NX
        cases b0 <;> cases b1 <;> cases b2
        all_goals
          have ST := Lib.hid hst
          clear hst
          go_wp2_with fail
          go_round
          case rel => exact ⟨j + 1, _, by omega, by go_num, rfl, by rw [ST.out]; rfl, z2, NX2⟩
          case measure => simp [intOf]; omega
    · have hli : (n : Int) ≤ (j : Int) := by omega
      have hjn : j = n := by omega
      have hfull : starL (L.take j) = starL L := by rw [List.take_of_length_le (by rw [hn.out]; omega)]
      rw [hfull]
      have OWN : Hid (starL L = false → matchB s t = decide (s = t)) := Lib.hid (by rw [← PS.out]; exact match_own s t)
      have M3 : Hid (matchB A s = true) := Lib.hid (by rw [HA.out, hjn, match_stars n s n1, PS.out, hn.out]; simp)
      have MT : matchB A t = decide (n = k) := by rw [HA.out, hjn, match_stars n t n1, hk.out]
      have MU : matchB (A ++ ⟨#[46, 42, 42]⟩) t = decide (n < k) := by rw [HA.out, hjn, match_two n t n1, hk.out]
      have O : (((k : Int) == (n : Int)) = false ∧ (n : Int) < (k : Int) ∧ Hid (matchB A t = false) ∧ Hid (matchB (A ++ ⟨#[46, 42, 42]⟩) t = true)) ∨ (((k : Int) == (n : Int)) = true ∧ (k : Int) ≤ (n : Int) ∧ Hid (matchB A t = true) ∧ Hid (matchB (A ++ ⟨#[46, 42, 42]⟩) t = false)) ∨ (((k : Int) == (n : Int)) = false ∧ (k : Int) ≤ (n : Int) ∧ Hid (matchB A t = false) ∧ Hid (matchB (A ++ ⟨#[46, 42, 42]⟩) t = false)) := by
        rcases Nat.lt_trichotomy n k with h | h | h
        · exact .inl ⟨by simp; omega, by omega, Lib.hid (by rw [MT]; simp; omega), Lib.hid (by rw [MU]; simp; omega)⟩
        · exact .inr (.inl ⟨by simp; omega, by omega, Lib.hid (by rw [MT]; simp; omega), Lib.hid (by rw [MU]; simp; omega)⟩)
        · exact .inr (.inr ⟨by simp; omega, by omega, Lib.hid (by rw [MT]; simp; omega), Lib.hid (by rw [MU]; simp; omega)⟩)
      clear MT MU
      have q1 : (A ++ ⟨#[46, 42, 42]⟩).size ≤ 100 := by rw [ByteArray.size_append]; show _ + 3 ≤ _; omega
      have hA2 : A.size ≤ 82 := by omega
      clear HA hfull hlt
      cases hsl : starL L
      · have hB : matchB s t = decide (s = t) := OWN.out hsl
        obtain ⟨v0, E0, B1⟩ : ∃ v0, (s.toList == t.toList) = v0 ∧ Hid (matchB s t = v0) := ⟨_, rfl, Lib.hid (by rw [hB, list_beq])⟩
        clear hB OWN hsl hjn
        cases v0 <;> rcases O with ⟨E1, l1, M1, M2⟩ | ⟨E1, l1, M1, M2⟩ | ⟨E1, l1, M1, M2⟩
        all_goals
          go_wp2_with fail
          refine (parts_any _ _ ht).mono ?_
          rintro e w3 ⟨⟨g2, cap2, rfl, T2⟩, b1⟩
          rw [hk.out]
          have HT2 := Lib.hid T2
          replace bb := chain bb b1
          clear b1 T2
          go_wp2_with fail
          refine (match_any _ _ _ (by omega) (by omega)).mono ?_
          rw [B1.out]
          rintro e w9 ⟨rfl, b9⟩
          replace bb := chain bb b9
          clear b9
          go_wp2_with fail
          refine (match_any _ _ _ (by omega) (by omega)).mono ?_
          rw [M1.out]
          rintro e w9 ⟨rfl, b9⟩
          replace bb := chain bb b9
          clear b9
          go_wp2_with fail
          refine (match_any _ _ _ (by omega) (by omega)).mono ?_
          rw [M2.out]
          rintro e w9 ⟨rfl, b9⟩
          replace bb := chain bb b9
          clear b9
          go_wp2_with fail
          refine (match_any _ _ _ (by omega) (by omega)).mono ?_
          rw [M3.out]
          rintro e w9 ⟨rfl, b9⟩
          replace bb := chain bb b9
          clear b9
          go_wp2_with fail
          go_ret
          refine ⟨ret_true ?_, bb⟩
          first | (simp; done) | (simp; omega)
      · clear OWN hsl hjn
        rcases O with ⟨E1, l1, M1, M2⟩ | ⟨E1, l1, M1, M2⟩ | ⟨E1, l1, M1, M2⟩
        all_goals
          go_wp2_with fail
          refine (parts_any _ _ ht).mono ?_
          rintro e w3 ⟨⟨g2, cap2, rfl, T2⟩, b1⟩
          rw [hk.out]
          have HT2 := Lib.hid T2
          replace bb := chain bb b1
          clear b1 T2
          go_wp2_with fail
          refine (match_any _ _ _ (by omega) (by omega)).mono ?_
          rw [M1.out]
          rintro e w9 ⟨rfl, b9⟩
          replace bb := chain bb b9
          clear b9
          go_wp2_with fail
          refine (match_any _ _ _ (by omega) (by omega)).mono ?_
          rw [M2.out]
          rintro e w9 ⟨rfl, b9⟩
          replace bb := chain bb b9
          clear b9
          go_wp2_with fail
          refine (match_any _ _ _ (by omega) (by omega)).mono ?_
          rw [M3.out]
          rintro e w9 ⟨rfl, b9⟩
          replace bb := chain bb b9
          clear b9
          go_wp2_with fail
          go_ret
          refine ⟨ret_true ?_, bb⟩
          first | (simp; done) | (simp; omega)
theorem labelStars_law (a0 a1 : ByteArray) (w : World) (z0 : a0.size ≤ 1048576) (z1 : a1.size ≤ 1048576) :
    Calls Try.prog 7 #[.string a0, .string a1] w fun e w' => e = .returned (.bool true) ∧ Below w.heap.size w w' := by
  have hz : (a0.extract 0 40).size ≤ 40 := by rw [ByteArray.size_extract]; omega
  have h1 := partsL_length a1
  rcases Int.lt_or_le 40 (a0.size : Int) with hs | hs
  · have h2 := partsL_length (a0.extract 0 40)
    exact labelStars_b a0 a1 _ _ _ _ w z0 z1 (Lib.hid rfl) hs hz (Lib.hid rfl) (Lib.hid rfl) (partsL_pos _) (by omega) (Lib.hid rfl) (by omega)
  · have h2 := partsL_length a0
    exact labelStars_s a0 a1 a0 _ _ _ w z0 z1 hs (by omega) (Lib.hid rfl) (Lib.hid rfl) (partsL_pos _) (by omega) (Lib.hid rfl) (by omega)
end Go.Proofs.Ytjcodjdhomhlpaa
