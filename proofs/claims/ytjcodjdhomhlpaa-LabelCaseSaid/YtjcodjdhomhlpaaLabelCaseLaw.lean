import Derived.Test.YtjcodjdhomhlpaaLabelLongLaw
namespace Go.Proofs.Ytjcodjdhomhlpaa
open Go.RowKit
set_option linter.unusedVariables false

/-- Letters alone. -/
def Let (l : List UInt8) : Prop := ∀ c ∈ l, (97 ≤ c.toNat ∧ c.toNat ≤ 122) ∨ (65 ≤ c.toNat ∧ c.toNat ≤ 90)
theorem Let.snoc {l : List UInt8} {c : UInt8} (h : Let l) (hc : (97 ≤ c.toNat ∧ c.toNat ≤ 122) ∨ (65 ≤ c.toNat ∧ c.toNat ≤ 90)) : Let (l ++ [c]) := by
  intro d hd
  rcases List.mem_append.1 hd with h1 | h1
  · exact h d h1
  · simp at h1; subst h1; exact hc
theorem rs_let (l m : List UInt8) (h : Let l) : rs (l ++ m) = l.map UInt8.toNat ++ rs m := by
  induction l with
  | nil => rfl
  | cons c l ih =>
    have hc := h c (by simp)
    rw [List.cons_append, rs_one _ _ (by omega), ih (fun d hd => h d (by simp [hd]))]
    rfl
theorem rgo_let (l : List UInt8) (M : List Nat) (h : Let l) (c t : Nat) : rgo (l.map UInt8.toNat ++ M) c t = rgo M (c + l.length) ((l.getLast?.map UInt8.toNat).getD t) := by
  induction l generalizing c t with
  | nil => rfl
  | cons x l ih =>
    have hx := h x (by simp)
    have h1 : okR x.toNat = true := by unfold okR; rw [decide_eq_true_eq]; omega
    have h2 : edgeR x.toNat = true := by unfold edgeR; rw [decide_eq_true_eq]; omega
    have h3 : x.toNat ≠ 46 := by omega
    rw [List.map_cons, List.cons_append, rgo, if_neg (by rintro (h | ⟨_, h⟩ | ⟨h, _⟩); rw [h1] at h; cases h; rw [h2] at h; cases h; exact h3 h), ih (fun d hd => h d (by simp [hd]))]
    have e : c + 1 + l.length = c + (x :: l).length := by simp; omega
    rw [e]
    congr 1
    cases l with
    | nil => rfl
    | cons y l => rw [List.getLast?_cons_cons]
                  cases h : (y :: l).getLast? with
                  | none => simp at h
                  | some z => rfl
theorem last_let (l : List UInt8) (hl : l ≠ []) (h : Let l) (t : Nat) : ∃ r, (l.getLast?.map UInt8.toNat).getD t = r ∧ edgeR r = true ∧ r ≠ 46 := by
  refine ⟨(l.getLast hl).toNat, by rw [List.getLast?_eq_some_getLast hl]; rfl, ?_, ?_⟩
  · have := h _ (List.getLast_mem hl)
    unfold edgeR; rw [decide_eq_true_eq]; omega
  · have := h _ (List.getLast_mem hl)
    omega
/-- A label of letters with something behind it. -/
theorem right_let (l m : List UInt8) (hl : l ≠ []) (h : Let l) (hs : l.length + m.length ≤ 32) : ∃ r, edgeR r = true ∧ r ≠ 46 ∧ rightB (Str (l ++ m)) = rfin (rgo (rs m) l.length r) := by
  obtain ⟨r, h1, h2, h3⟩ := last_let l hl h 0
  refine ⟨r, h2, h3, ?_⟩
  have hp : 0 < l.length := List.length_pos_iff.2 hl
  rw [rightB_in _ (by rw [Str_size, List.length_append]; omega) (by rw [Str_size, List.length_append]; omega), RS_str, rs_let _ _ h, rgo_let _ _ h, h1, Nat.zero_add]
theorem right_own (l : List UInt8) (hl : l ≠ []) (h : Let l) (hs : l.length ≤ 16) : rightB (Str l) = true := by
  obtain ⟨r, h1, h2, h3⟩ := right_let l [] hl h (by simp; omega)
  rw [List.append_nil] at h3
  rw [h3, rs_nil, rgo, rfin, h1]
  simp [hs]
theorem right_mark (l : List UInt8) (hl : l ≠ []) (h : Let l) (hs : l.length ≤ 12) (c : UInt8) (hc : c.toNat = 45 ∨ c.toNat = 46) : rightB (Str (l ++ [c])) = false := by
  obtain ⟨r, h1, h2, h3⟩ := right_let l [c] hl h (by simp; omega)
  have hp : 0 < l.length := List.length_pos_iff.2 hl
  rw [h3, rs_one _ _ (by omega), rs_nil, rgo]
  split
  · rfl
  · rw [rgo, rfin]
    have : edgeR c.toNat = false := by unfold edgeR; rw [decide_eq_false_iff_not]; omega
    rw [this]; simp
theorem right_mid (l : List UInt8) (hl : l ≠ []) (h : Let l) (hs : l.length ≤ 12) (c d : UInt8) (hc : c.toNat = 45 ∨ c.toNat = 46) (hd : 97 ≤ d.toNat ∧ d.toNat ≤ 122) : rightB (Str (l ++ [c, d])) = true := by
  obtain ⟨r, h1, h2, h3⟩ := right_let l [c, d] hl h (by simp; omega)
  have hp : 0 < l.length := List.length_pos_iff.2 hl
  have a1 : okR c.toNat = true := by unfold okR; rw [decide_eq_true_eq]; omega
  have a2 : okR d.toNat = true := by unfold okR; rw [decide_eq_true_eq]; omega
  have a3 : edgeR d.toNat = true := by unfold edgeR; rw [decide_eq_true_eq]; omega
  rw [h3, rs_one _ _ (by omega), rs_one _ _ (by omega), rs_nil, rgo, if_neg (by rintro (h | ⟨h, _⟩ | ⟨_, h⟩); rw [a1] at h; cases h; omega; exact h2 h),
    rgo, if_neg (by rintro (h | ⟨h, _⟩ | ⟨h, _⟩); rw [a2] at h; cases h; omega; omega), rgo, rfin, a3]
  simp; omega
theorem right_head (l : List UInt8) (hs : l.length ≤ 12) (c : UInt8) (hc : c.toNat = 45 ∨ c.toNat = 46) : rightB (Str (c :: l)) = false := by
  have he : edgeR c.toNat = false := by unfold edgeR; rw [decide_eq_false_iff_not]; omega
  rw [rightB_in _ (by rw [Str_size]; simp) (by rw [Str_size]; simp; omega), RS_str, rs_one _ _ (by omega), rgo, if_pos (.inr (.inl ⟨rfl, he⟩))]
  rfl
theorem right_bad (l m : List UInt8) (hl : l ≠ []) (h : Let l) (hs : l.length + m.length ≤ 32) (r : Nat) (M : List Nat) (hm : rs m = r :: M) (hr : okR r = false) : rightB (Str (l ++ m)) = false := by
  obtain ⟨t, h1, h2, h3⟩ := right_let l m hl h hs
  rw [h3, hm, rgo, if_pos (.inl hr)]
  rfl
theorem rs_strange (c : UInt8) (h : 128 ≤ c.toNat) : rs [c] = [65533] := by
  have hd : Lib.decodeL [c] = (65533, 1) := by
    rw [Lib.decodeL_N]
    exact Lib.decodeN_alone _ _ _ _ _ h (.inl (by simp))
  rw [rs_step _ (by simp)]
  unfold dR dW
  rw [hd]
  rfl
theorem fold_let (l : List UInt8) (hl : l ≠ []) (h : Let l) (hs : l.length ≤ 16) : foldB (Str l) = Str (l.map lowB) := by
  rw [foldB_yes _ (right_own l hl h hs), Str_list]
theorem sz2 (X Y : ByteArray) (hX : X.size ≤ 1000) (hY : Y.size ≤ 1000) : (X ++ Y).size ≤ 140737488351232 := by rw [ByteArray.size_append]; omega
set_option maxRecDepth 20000 in
set_option maxHeartbeats 6400000 in
theorem labelCase_walk (s : ByteArray) (great st : Int) (w : World) (hs : s.size ≤ 140737488351232) (g0 : -9223372036854775808 ≤ great) (g1 : great ≤ 9223372036854775807) (c0 : 0 ≤ st) (c1 : st ≤ 255) :
    Calls Try.prog 8 #[.string s, .int .i64 great, .int .u8 st] w fun e w' => e = .returned (.bool true) ∧ Below w.heap.size w w' := by
  go_enter Try.func8, Try.ntmps8
  try simp only [List.append_eq, List.cons_append, List.nil_append]
  go_wp2_with fail
  refine (examples_any _).mono ?_
  rintro e w1 ⟨rfl, bb⟩
  go_wp2_with fail
  go_loopw [8, 9, 10, 11] (fun a b i _ wr => ∃ (j : Nat) (A B : ByteArray) (l m : List UInt8), j ≤ 12 ∧ j ≤ s.size ∧ a = .string A ∧ b = .string B ∧ i = .int .i64 (j : Int) ∧ A.size ≤ 12 ∧ B.size ≤ 12 ∧ l.length = j ∧ Hid (A = Str l ∧ B = Str m ∧ (∀ c ∈ l, 97 ≤ c.toNat ∧ c.toNat ≤ 122) ∧ Let m ∧ m.map lowB = l) ∧ Below w.heap.size w wr) (fun _ _ i _ _ => 13 - (intOf i).toNat)
  case atStart => exact ⟨0, _, _, [], [], by omega, by omega, rfl, rfl, rfl, by decide, by decide, rfl, Lib.hid ⟨rfl, rfl, by simp, by intro c hc; simp at hc, rfl⟩, bb⟩
  case round =>
    obtain ⟨j, A, B, l, m, hj, hjs, rfl, rfl, rfl, hA, hB, hl, HH, hbw⟩ := hrel
    have HL := Lib.hid hl
    clear hl
    by_cases hlt : j < s.size ∧ j < 12
    · obtain ⟨hl1, hl2⟩ := hlt
      have hi1 : (j : Int) < (s.size : Int) := by omega
      have hi2 : (j : Int) < 12 := by omega
      have hx := (s[j]'hl1).toNat_lt
      obtain ⟨p, hp, hp0, hp1⟩ : ∃ p : Nat, (((s[j]'hl1).toNat : Nat) : Int) % 26 = (p : Int) ∧ 0 ≤ (p : Int) ∧ (p : Int) ≤ 25 := ⟨(s[j]'hl1).toNat % 26, by omega, by omega, by omega⟩
      have hpn : p ≤ 25 := by omega
      obtain ⟨x, hxv⟩ : ∃ x : UInt8, (x.toNat : Int) = 97 + (p : Int) := ⟨UInt8.ofNat (97 + p), by rw [UInt8.toNat_ofNat', Nat.mod_eq_of_lt (by omega)]; omega⟩
      obtain ⟨y, hyv⟩ : ∃ y : UInt8, (y.toNat : Int) = 97 + (p : Int) - 97 + 65 := ⟨UInt8.ofNat (65 + p), by rw [UInt8.toNat_ofNat', Nat.mod_eq_of_lt (by omega)]; omega⟩
      have hxx : lowB x = x := by apply UInt8.toNat_inj.1; rw [lowB_toNat]; unfold lowR; rw [if_neg (by omega)]
      have hyy : lowB y = x := by apply UInt8.toNat_inj.1; rw [lowB_toNat]; unfold lowR; rw [if_pos (by omega)]; omega
      have hc1 := conv_one wr x _ hxv
      have hs1 : (Str [x]).size ≤ 1 := by rw [Str_size]; simp
      have hs2 : (Str [y]).size ≤ 1 := by rw [Str_size]; simp
      have hsz := hbw.size
      obtain ⟨EA, EB, hl97, hmL, hml⟩ := HH.out
      have hmlen : m.length = j := by rw [← HL.out, ← hml, List.length_map]
      have NA : Hid (A ++ Str [x] = Str (l ++ [x])) := Lib.hid (by rw [EA, Str_append, Str_list])
      have zA : (A ++ Str [x]).size ≤ 12 := by rw [NA.out, Str_size, List.length_append, HL.out]; simp; omega
      have NL : Hid ((l ++ [x]).length = j + 1) := Lib.hid (by rw [List.length_append, HL.out]; rfl)
      have LX : ∀ c ∈ l ++ [x], 97 ≤ c.toNat ∧ c.toNat ≤ 122 := by
        intro c hc
        rcases List.mem_append.1 hc with h | h
        · exact hl97 c h
        · simp at h; subst h; omega
      cases hb : ((great / 2 ^ j).tmod 2 != 0)
      · have hc2 := conv_one (wr.alloc (.cells #[.int .u8 (97 + (p : Int))] 5)) x _ hxv
        rw [show (wr.alloc (.cells #[.int .u8 (97 + (p : Int))] 5)).heap.size = wr.heap.size + 1 by simp] at hc2
        have NB : Hid (B ++ Str [x] = Str (m ++ [x])) := Lib.hid (by rw [EB, Str_append, Str_list])
        have zB : (B ++ Str [x]).size ≤ 12 := by rw [NB.out, Str_size, List.length_append, hmlen]; simp; omega
        have FIN : Hid (A ++ Str [x] = Str (l ++ [x]) ∧ B ++ Str [x] = Str (m ++ [x]) ∧ (∀ c ∈ l ++ [x], 97 ≤ c.toNat ∧ c.toNat ≤ 122) ∧ Let (m ++ [x]) ∧ (m ++ [x]).map lowB = l ++ [x]) :=
          Lib.hid ⟨NA.out, NB.out, LX, hmL.snoc (by omega), by rw [List.map_append, hml, List.map_singleton, hxx]⟩
        clear EA EB hl97 hmL hml hmlen hxv hyv hxx hyy HH LX
        generalize Str [x] = t1 at *
        go_wp2_with fail
        go_roundw
        case rel => exact ⟨j + 1, _, _, _, _, by omega, by omega, rfl, rfl, by go_num, zA, zB, NL.out, FIN, (hbw.alloc hsz _).alloc (by simp; omega) _⟩
        case measure => simp [intOf]; omega
      · have hc2 := conv_one (wr.alloc (.cells #[.int .u8 (97 + (p : Int))] 5)) y _ hyv
        rw [show (wr.alloc (.cells #[.int .u8 (97 + (p : Int))] 5)).heap.size = wr.heap.size + 1 by simp] at hc2
        have NB : Hid (B ++ Str [y] = Str (m ++ [y])) := Lib.hid (by rw [EB, Str_append, Str_list])
        have zB : (B ++ Str [y]).size ≤ 12 := by rw [NB.out, Str_size, List.length_append, hmlen]; simp; omega
        have FIN : Hid (A ++ Str [x] = Str (l ++ [x]) ∧ B ++ Str [y] = Str (m ++ [y]) ∧ (∀ c ∈ l ++ [x], 97 ≤ c.toNat ∧ c.toNat ≤ 122) ∧ Let (m ++ [y]) ∧ (m ++ [y]).map lowB = l ++ [x]) :=
          Lib.hid ⟨NA.out, NB.out, LX, hmL.snoc (by omega), by rw [List.map_append, hml, List.map_singleton, hyy]⟩
        clear EA EB hl97 hmL hml hmlen hxv hyv hxx hyy HH LX
        generalize Str [x] = t1 at *
        generalize Str [y] = t2 at *
        go_wp2_with fail
        go_roundw
        case rel => exact ⟨j + 1, _, _, _, _, by omega, by omega, rfl, rfl, by go_num, zA, zB, NL.out, FIN, (hbw.alloc hsz _).alloc (by simp; omega) _⟩
        case measure => simp [intOf]; omega
    · obtain ⟨EA, EB, hl97, hmL, hml⟩ := HH.out
      have hlL : Let l := fun c hc => .inl (hl97 c hc)
      have hend : ¬ (j : Int) < (s.size : Int) ∨ ((j : Int) < (s.size : Int) ∧ ¬ (j : Int) < 12) := by omega
      clear hlt HH
      by_cases hj0 : j = 0
      · have hl0 : l = [] := List.eq_nil_of_length_eq_zero (by rw [HL.out, hj0])
        clear hj0
        subst hl0
        subst EA
        have he : (Str []).toList.isEmpty = true := by rw [toList_data]; rfl
        have he2 : (Str []).toList = [] := by rw [toList_data]; rfl
        have R0 := Lib.hid (show rightB (Str []) = false by decide +kernel)
        have R1 := Lib.hid (show rightB ⟨#[45]⟩ = false by decide +kernel)
        have R2 := Lib.hid (show rightB ⟨#[46]⟩ = false by decide +kernel)
        clear EB hl97 hmL hml hlL
        generalize Str [] = A at *
        rcases (show (s.size : Int) ≤ (j : Int) ∨ ((j : Int) < (s.size : Int) ∧ 12 ≤ (j : Int)) by omega) with h | ⟨h, h'⟩
        all_goals
          clear hend
          go_wp2_with fail
          refine (right_any _ _ (by omega)).mono ?_
          rw [R0.out]
          rintro e w9 ⟨rfl, b9⟩
          replace hbw := chain hbw b9
          clear b9
          go_wp2_with fail
          refine (right_any _ _ (by decide)).mono ?_
          rw [R1.out]
          rintro e w9 ⟨rfl, b9⟩
          replace hbw := chain hbw b9
          clear b9
          go_wp2_with fail
          refine (right_any _ _ (by decide)).mono ?_
          rw [R2.out]
          rintro e w9 ⟨rfl, b9⟩
          replace hbw := chain hbw b9
          clear b9
          go_wp2_with fail
          go_ret
          exact ⟨rfl, hbw⟩
      · have hl0 : l ≠ [] := by intro e; rw [e] at HL; exact hj0 HL.out.symm
        have hm0 : m ≠ [] := by intro e; rw [e] at hml; exact hl0 hml.symm
        have hll : l.length ≤ 12 := by rw [HL.out]; exact hj
        have hmlen : m.length ≤ 12 := by rw [← hml, List.length_map] at hll; exact hll
        have hfix : l.map lowB = l := by
          calc l.map lowB = l.map id := List.map_congr_left (fun c hc => by
                apply UInt8.toNat_inj.1; rw [lowB_toNat]; unfold lowR; have := hl97 c hc; rw [if_neg (by omega)]; rfl)
            _ = l := by simp
        obtain ⟨d, hd1, hd97⟩ : ∃ d, l.take 1 = [d] ∧ (97 ≤ d.toNat ∧ d.toNat ≤ 122) := by
          cases l with
          | nil => exact absurd rfl hl0
          | cons d l => exact ⟨d, rfl, hl97 d (by simp)⟩
        obtain ⟨q, hq, hq0, hq1⟩ : ∃ q : Nat, st % 64 = (q : Int) ∧ 0 ≤ (q : Int) ∧ (q : Int) ≤ 63 := ⟨(st % 64).toNat, by omega, by omega, by omega⟩
        obtain ⟨y, hyv⟩ : ∃ y : UInt8, (y.toNat : Int) = 128 + (q : Int) := ⟨UInt8.ofNat (128 + q), by rw [UInt8.toNat_ofNat', Nat.mod_eq_of_lt (by omega)]; omega⟩
        have F1 : Hid (foldB (Str l) = Str l) := Lib.hid (by rw [fold_let l hl0 hlL (by omega), hfix])
        have F2 : Hid (foldB (Str m) = Str l) := Lib.hid (by rw [fold_let m hm0 hmL (by omega), hml])
        have K1 := Lib.hid (right_own l hl0 hlL (by omega))
        have K2 := Lib.hid (right_own m hm0 hmL (by omega))
        have M1 : Hid (rightB (Str l ++ ⟨#[45]⟩) = false) := Lib.hid (by rw [Str_append]; exact right_mark l hl0 hlL (by omega) 45 (.inl rfl))
        have M2 : Hid (rightB (⟨#[46]⟩ ++ Str l) = false) := Lib.hid (by rw [show (⟨#[46]⟩ : ByteArray) = Str [46] from rfl, Str_append, Str_list]; exact right_head l (by omega) 46 (.inr rfl))
        have M3 : Hid (rightB (Str l ++ ⟨#[46]⟩) = false) := Lib.hid (by rw [Str_append]; exact right_mark l hl0 hlL (by omega) 46 (.inr rfl))
        have M4 : Hid (rightB (⟨#[45]⟩ ++ Str l) = false) := Lib.hid (by rw [show (⟨#[45]⟩ : ByteArray) = Str [45] from rfl, Str_append, Str_list]; exact right_head l (by omega) 45 (.inl rfl))
        have hx1 : (Str l).extract 0 1 = Str [d] := by apply eq_of_data; rw [extract_list, Str_list, Str_list, List.drop_zero, hd1]
        have M5 : Hid (rightB (Str l ++ ⟨#[45]⟩ ++ Str [d]) = true) := Lib.hid (by rw [Str_append, Str_append, Str_list]; have := right_mid l hl0 hlL (by omega) 45 d (.inl rfl) hd97; simpa using this)
        have M6 : Hid (rightB (Str l ++ ⟨#[46]⟩ ++ Str [d]) = true) := Lib.hid (by rw [Str_append, Str_append, Str_list]; have := right_mid l hl0 hlL (by omega) 46 d (.inr rfl) hd97; simpa using this)
        have M7 : Hid (rightB (Str l ++ Str [y]) = false) := Lib.hid (by rw [Str_append, Str_list]; exact right_bad l [y] hl0 hlL (by simp; omega) 65533 [] (rs_strange y (by omega)) (by decide))
        have M8 : Hid (rightB (Str l ++ ⟨#[32, 120]⟩) = false) := Lib.hid (by rw [Str_append]; exact right_bad l [32, 120] hl0 hlL (by simp; omega) 32 [120] (by rw [rs_one _ _ (by decide), rs_one _ _ (by decide), rs_nil]; rfl) (by decide))
        have he : (Str l).toList.isEmpty = false := nonempty _ (by rw [Str_size]; exact List.length_pos_iff.2 hl0)
        have hz1 : (Str l).size ≤ 12 := by rw [Str_size]; exact hll
        have hz0 : 1 ≤ (Str l).size := by rw [Str_size]; exact List.length_pos_iff.2 hl0
        have hz2 : (Str m).size ≤ 12 := by rw [Str_size]; exact hmlen
        have hz3 : (Str [d]).size ≤ 1 := by rw [Str_size]; simp
        have hz4 : (Str [y]).size ≤ 1 := by rw [Str_size]; simp
        have hcy := fun W => conv_one W y _ hyv
        subst EA
        subst EB
        clear hl97 hmL hml hlL hl0 hm0 hll hmlen hfix hd1 hd97 hyv HL hj0
        have HX := Lib.hid hx1
        have q0 : (1 : Int) ≤ ((Str l).size : Int) := by omega
        have q1 : (Str l ++ ⟨#[45]⟩).size ≤ 13 := by rw [ByteArray.size_append]; show _ + 1 ≤ _; omega
        have q2 : (Str l ++ ⟨#[46]⟩).size ≤ 13 := by rw [ByteArray.size_append]; show _ + 1 ≤ _; omega
        clear hx1
        generalize Str l = A at *
        generalize Str m = B at *
        generalize Str [d] = D at *
        generalize Str [y] = Y at *
        rcases (show (s.size : Int) ≤ (j : Int) ∨ ((j : Int) < (s.size : Int) ∧ 12 ≤ (j : Int)) by omega) with h | ⟨h, h'⟩
        all_goals
          clear hend
          go_wp2_with fail
          refine (fold_any _ _ (by omega)).mono ?_
          rw [F1.out, K1.out]
          rintro e w9 ⟨rfl, b9⟩
          replace hbw := chain hbw b9
          clear b9
          go_wp2_with fail
          refine (fold_any _ _ (by omega)).mono ?_
          rw [F2.out, K2.out]
          rintro e w9 ⟨rfl, b9⟩
          replace hbw := chain hbw b9
          clear b9
          go_wp2_with fail
          refine (right_any _ _ (sz2 _ _ (by first | decide | omega) (by first | decide | omega))).mono ?_
          rw [M1.out]
          rintro e w9 ⟨rfl, b9⟩
          replace hbw := chain hbw b9
          clear b9
          go_wp2_with fail
          refine (right_any _ _ (sz2 _ _ (by first | decide | omega) (by first | decide | omega))).mono ?_
          rw [M2.out]
          rintro e w9 ⟨rfl, b9⟩
          replace hbw := chain hbw b9
          clear b9
          go_wp2_with fail
          refine (right_any _ _ (sz2 _ _ (by first | decide | omega) (by first | decide | omega))).mono ?_
          rw [M3.out]
          rintro e w9 ⟨rfl, b9⟩
          replace hbw := chain hbw b9
          clear b9
          go_wp2_with fail
          refine (right_any _ _ (sz2 _ _ (by first | decide | omega) (by first | decide | omega))).mono ?_
          rw [M4.out]
          rintro e w9 ⟨rfl, b9⟩
          replace hbw := chain hbw b9
          clear b9
          go_wp2_with fail
          rw [HX.out]
          refine (right_any _ _ (sz2 _ _ (by first | decide | omega) (by first | decide | omega))).mono ?_
          rw [M5.out]
          rintro e w9 ⟨rfl, b9⟩
          replace hbw := chain hbw b9
          clear b9
          go_wp2_with fail
          rw [HX.out]
          refine (right_any _ _ (sz2 _ _ (by first | decide | omega) (by first | decide | omega))).mono ?_
          rw [M6.out]
          rintro e w9 ⟨rfl, b9⟩
          replace hbw := chain hbw b9
          clear b9
          go_wp2_with fail
          refine (right_any _ _ (sz2 _ _ (by first | decide | omega) (by first | decide | omega))).mono ?_
          rw [M7.out]
          rintro e w9 ⟨rfl, b9⟩
          replace hbw := chain (hbw.alloc hbw.size _) b9
          clear b9
          go_wp2_with fail
          refine (right_any _ _ (sz2 _ _ (by first | decide | omega) (by first | decide | omega))).mono ?_
          rw [M8.out]
          rintro e w9 ⟨rfl, b9⟩
          replace hbw := chain hbw b9
          clear b9
          go_wp2_with fail
          go_ret
          exact ⟨rfl, hbw⟩
theorem labelCase_law (a0 : ByteArray) (a1 a2 : Int) (w : World) (z0 : a0.size ≤ 140737488351232) (w1 : (Lit.int .i64 a1).wf = true) (w2 : (Lit.int .u8 a2).wf = true) :
    Calls Try.prog 8 #[.string a0, .int .i64 a1, .int .u8 a2] w fun e w' => e = .returned (.bool true) ∧ Below w.heap.size w w' := by
  have h1 := bounds_i64 w1
  have h2 := bounds_u8 w2
  exact labelCase_walk a0 a1 a2 w z0 h1.1 (by omega) h2.1 (by omega)
end Go.Proofs.Ytjcodjdhomhlpaa
