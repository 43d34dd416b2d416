/-
  The document's runes, Runes, letter, Right, Fold.
-/
import Derived.Test.YtlbnakoaflladaaFoldFacts
namespace Go.Proofs.Ytlbnakoaflladaa
open Go.RowKit
set_option linter.unusedVariables false

theorem info_int : (Try.prog.info? 3).map (fun i => (i.zero, i.size, i.bytes)) = some (some (.int .i64 0), 1, 8) := by kernel_rfl
/-- A slice of numbers: nil, or a row of the call's own. -/
def Nums (w : World) (base : Nat) (L : List Nat) (a : Option Addr) (cap : Nat) : Prop :=
  (L = [] ∧ a = none ∧ cap = 0) ∨ ∃ g, a = some ⟨g, 0, none⟩ ∧ base ≤ g ∧ g < w.heap.size ∧ L.length ≤ cap ∧ cap ≤ maxLen ∧ ∀ j (h : j < L.length), w.cell? ⟨g, j, none⟩ = some (.int .i64 (L[j] : Int))
theorem Nums.of {w : World} {base : Nat} {v : Value} {L : List Nat} (h : w.ownsRow base 3 1 v L.length (L.map fun r => Value.int .i64 ((r : Nat) : Int))) : ∃ a cap, v = .slice a L.length cap ∧ Nums w base L a cap := by
  obtain ⟨h0, h1⟩ := h
  rcases h1 with ⟨hv, hl⟩ | ⟨g, cap, cur, hv, hb, hh, hn, hc, hs, ht⟩
  · exact ⟨none, 0, by rw [hl]; exact hv, .inl ⟨List.eq_nil_of_length_eq_zero hl, rfl, rfl⟩⟩
  · refine ⟨_, cap, hv, .inr ⟨g, rfl, hb, (Array.getElem?_eq_some_iff.1 hh).1, hn, hc, fun j hj => ?_⟩⟩
    have hcell := World.ownsRow.cells (base := base) (e := 3) (size := 1) (v := v) (n := L.length) (xs := L.map fun r => Value.int .i64 ((r : Nat) : Int)) ⟨h0, .inr ⟨g, cap, cur, hv, hb, hh, hn, hc, hs, ht⟩⟩ (g := g) (by rw [hv]; rfl) j (.int .i64 (L[j] : Int)) (by simp [List.getElem?_eq_getElem hj])
    rwa [addr_add, Nat.zero_add] at hcell
def SomeNums (base : Nat) (L : List Nat) (e : Ending) (w : World) : Prop := ∃ a cap, e = .returned (.slice a L.length cap) ∧ Nums w base L a cap
theorem some_nums {w : World} {base : Nat} {v : Value} {L M : List Nat} (h : w.ownsRow base 3 1 v L.length (L.map fun r => Value.int .i64 ((r : Nat) : Int))) (hM : L = M) : SomeNums base M (.returned v) w := by
  subst hM
  obtain ⟨a, cap, hv, hn⟩ := Nums.of h
  exact ⟨a, cap, by rw [hv], hn⟩
set_option maxHeartbeats 1600000 in
theorem refRunes0_any (s : ByteArray) (w : World) (hs : s.size ≤ 1048576) :
    Calls Try.prog 63 #[.string s] w fun e w' => SomeNums w.heap.size (RS s 0) e w' ∧ Below w.heap.size w w' := by
  obtain ⟨i0, hi, hz0, hz1, hz2⟩ := info_parts info_int
  go_enter Try.func63, Try.ntmps63
  go_wp2_with fail
  go_loopw [3, 5, 8] (fun v _ _ wr => ∃ (k : Nat) (L : List Nat), k ≤ s.size ∧ L.length ≤ k ∧ Hid (L ++ RS s k = RS s 0) ∧ wr.ownsRow w.heap.size 3 1 v L.length (L.map fun r => Value.int .i64 ((r : Nat) : Int)) ∧ wr.heap[w.heap.size]? = some (.stringIter s k) ∧ Below w.heap.size w wr) (fun _ _ _ wr => s.size - wr.iterPos w.heap.size)
  case atStart => exact ⟨0, [], by omega, Nat.le_refl _, Lib.hid rfl, World.ownsRow_nil _ _ _ _, World.iter_heap _ _ _, (Below.refl _ _).alloc (Nat.le_refl _) _⟩
  case round =>
    obtain ⟨k, L, hk, hL, hA, hown, hit, hbw⟩ := hrel
    have IT := Lib.hid hit
    have hsz : w.heap.size < wr.heap.size := (Array.getElem?_eq_some_iff.1 hit).1
    clear hit
    by_cases hlt : k < s.size
    · have hnext := fun ty => next_rune wr w.heap.size s k ty IT.out hlt
      have it2 := Lib.hid (Lib.iterAt_heap wr w.heap.size s k (k + sW s k) IT.out)
      have hown2 := own_iterAt hown IT.out (k + sW s k)
      have hbw2 : Below w.heap.size w (wr.iterAt w.heap.size s (k + sW s k)) := Lib.below_iterAt hbw (Nat.le_refl _) s _
      have hsz2 : w.heap.size < (wr.iterAt w.heap.size s (k + sW s k)).heap.size := by rw [Lib.iterAt_size]; exact hsz
      have IP := Lib.hid (iterPos_of IT.out)
      have hW := sW_le s k hlt
      have hW1 := sW_pos s k
      have hst := RS_step s k hlt
      have hx := sR_le s k
      generalize sR s k = x at *
      have NX : Hid (L ++ [x] ++ RS s (k + sW s k) = RS s 0) := Lib.hid (by have := hA.out; rw [hst] at this; rw [← this]; simp)
      generalize sW s k = y at *
      clear hown hbw hst
      have OWN := Lib.hid hown2
      clear hown2
      generalize hg : wr.iterAt w.heap.size s (k + y) = wi at *
      have G := Lib.hid hg
      clear hg
      go_wp2_with (at_builtin; refine wpList_append_own _ rfl _ _ 97 rfl w.heap.size 3 i0 (.int .i64 0) 1 8 Try.underlying97 hi hz0 hz1 hz2 rfl (by decide) _ _ _ rfl (OWN.out.alloc _) ⟨wi.heap.size, 0, none⟩ 1 1 [.int .i64 (x : Int)] rfl rfl ?c1 ?c2 ?c3 ?c4 ?c5 ?_)
      case c1 =>
        intro j u hj
        match j, hj with
        | 0, hj => simp at hj; subst hj; simp [Addr.add]
      case c2 => intro u hu; simp at hu; subst hu; rfl
      case c3 => unfold maxLen; omega
      case c4 => omega
      case c5 => simp; omega
      · intro v' w' hown' hgrow _
        have R : Hid (w'.ownsRow w.heap.size 3 1 v' (L ++ [x]).length ((L ++ [x]).map fun r => Value.int .i64 ((r : Nat) : Int))) := Lib.hid (by simpa using hown')
        have hb2 : Below w.heap.size w w' := (hbw2.alloc (by omega) _).grown hgrow (by simp; omega) (fun g hg => (OWN.out.lt g hg).1)
        have it3 : Hid (w'.heap[w.heap.size]? = some (.stringIter s (k + y))) :=
          iter_kept (OWN.out.alloc _) hgrow ((Below.heap_alloc wi _ _ hsz2).trans it2.out)
        clear hown' hgrow hbw2
        go_wp2_with fail
        go_roundw
        case rel => exact ⟨k + y, L ++ [x], hW, by simp; omega, NX, R.out, it3.out, hb2⟩
        case measure => rw [IP.out, iterPos_of it3.out]; omega
    · have hend := fun ty => Lib.run_next_end_at (P := Try.prog) wr w.heap.size s k ty IT.out (by omega)
      have E : L = RS s 0 := by have := hA.out; rwa [RS_end s k (by omega), List.append_nil] at this
      have R := Lib.hid (some_nums hown E)
      clear hown E
      go_wp2_with fail
      go_ret
      exact ⟨R.out, hbw⟩
def letR (r : Nat) : Bool := decide ((97 ≤ r ∧ r ≤ 122) ∨ (65 ≤ r ∧ r ≤ 90) ∨ (48 ≤ r ∧ r ≤ 57) ∨ (192 ≤ r ∧ r ≤ 383))
theorem ok_let (r : Nat) : okR r = (letR r || decide (r = 45 ∨ r = 46)) := by
  unfold okR letR
  rw [Bool.eq_iff_iff]
  simp
  omega
set_option maxRecDepth 20000 in
set_option maxHeartbeats 3200000 in
theorem letter_is (r : Nat) (v : Bool) (w : World) (hr : r ≤ 1114111) (hv : letR r = v) :
    Calls Try.prog 64 #[.int .i64 (r : Int)] w fun e w' => e = .returned (.bool v) ∧ w = w' := by
  subst hv
  have ok : ∀ b, (b = decide ((97 ≤ r ∧ r ≤ 122) ∨ (65 ≤ r ∧ r ≤ 90) ∨ (48 ≤ r ∧ r ≤ 57) ∨ (192 ≤ r ∧ r ≤ 383))) → letR r = b := fun b h => h.symm
  rcases (show (r : Int) < 48 ∨ (48 ≤ (r : Int) ∧ (r : Int) ≤ 57) ∨ (58 ≤ (r : Int) ∧ (r : Int) ≤ 64) ∨ (65 ≤ (r : Int) ∧ (r : Int) ≤ 90) ∨ (91 ≤ (r : Int) ∧ (r : Int) ≤ 96) ∨ (97 ≤ (r : Int) ∧ (r : Int) ≤ 122) ∨ (123 ≤ (r : Int) ∧ (r : Int) ≤ 191) ∨ (192 ≤ (r : Int) ∧ (r : Int) ≤ 383) ∨ 384 ≤ (r : Int) by omega) with h | ⟨h, h'⟩ | ⟨h, h'⟩ | ⟨h, h'⟩ | ⟨h, h'⟩ | ⟨h, h'⟩ | ⟨h, h'⟩ | ⟨h, h'⟩ | h
  all_goals
    first
    | (have e : letR r = true := ok _ (by symm; rw [decide_eq_true_eq]; omega)
       rw [e])
    | (have e : letR r = false := ok _ (by symm; rw [decide_eq_false_iff_not]; omega)
       rw [e])
    clear ok e
    go_enter Try.func64, Try.ntmps64
    go_wp2_with fail
    go_ret
    exact ⟨ret_bool (by simp; try omega), rfl⟩
/-- The rune ahead of place i. -/
def prev (L : List Nat) (i : Nat) : Nat := if i = 0 then 0 else L.getD (i - 1) 0
theorem rgo_at (L : List Nat) (i : Nat) (h : i < L.length) : rgo (L.drop i) i (prev L i) = if okR L[i] = false ∨ (i = 0 ∧ edgeR L[i] = false) ∨ (L[i] = 46 ∧ prev L i = 46) then none else rgo (L.drop (i + 1)) (i + 1) (prev L (i + 1)) := by
  rw [List.drop_eq_getElem_cons h, rgo]
  have : prev L (i + 1) = L[i] := by unfold prev; rw [if_neg (by omega), Nat.add_sub_cancel, List.getD_eq_getElem?_getD, List.getElem?_eq_getElem h]; rfl
  rw [this]
theorem prev_succ (L : List Nat) (t : Nat) (h : t < L.length) : prev L (t + 1) = L[t] := by
  unfold prev; rw [if_neg (by omega), Nat.add_sub_cancel, List.getD_eq_getElem?_getD, List.getElem?_eq_getElem h]; rfl
theorem rgo_done (L : List Nat) (i : Nat) (h : L.length ≤ i) (c t : Nat) : rgo (L.drop i) c t = some (c, t) := by
  rw [List.drop_eq_nil_of_le h, rgo]
theorem mark_edge (x : Nat) (h : x = 45 ∨ x = 46) : edgeR x = false ∧ okR x = true ∧ letR x = false := by
  rcases h with rfl | rfl <;> decide
theorem let_edge (x : Nat) (h : letR x = true) : edgeR x = true ∧ okR x = true ∧ x ≠ 45 ∧ x ≠ 46 := by
  have h2 : x ≠ 45 ∧ x ≠ 46 := by constructor <;> (rintro rfl; revert h; decide)
  exact ⟨by unfold edgeR; simpa using h2, by rw [ok_let, h]; rfl, h2⟩
/-- What a round of the document's Right meets. -/
theorem right_round (L : List Nat) (i n : Nat) (v : Bool) (hn : L.length = n) (h : i < n) (hn2 : n ≤ 16) (hg : rfin (rgo (L.drop i) i (prev L i)) = v) :
    ∃ x, L[i]? = some x ∧
    ((letR x = false ∧ x ≠ 45 ∧ x ≠ 46 ∧ v = false) ∨
     (letR x = true ∧ x ≠ 45 ∧ x ≠ 46 ∧ rfin (rgo (L.drop (i + 1)) (i + 1) (prev L (i + 1))) = v ∧ edgeR (prev L (i + 1)) = true) ∨
     ((x = 45 ∨ x = 46) ∧ (i = 0 ∨ (0 < i ∧ i + 1 = n)) ∧ v = false) ∨
     (x = 46 ∧ 0 < i ∧ i + 1 < n ∧ prev L i = 46 ∧ v = false) ∨
     (x = 46 ∧ 0 < i ∧ i + 1 < n ∧ prev L i ≠ 46 ∧ rfin (rgo (L.drop (i + 1)) (i + 1) (prev L (i + 1))) = v) ∨
     (x = 45 ∧ 0 < i ∧ i + 1 < n ∧ rfin (rgo (L.drop (i + 1)) (i + 1) (prev L (i + 1))) = v)) := by
  have hi : i < L.length := by omega
  refine ⟨L[i], List.getElem?_eq_getElem hi, ?_⟩
  rw [rgo_at L i hi] at hg
  have hp := prev_succ L i hi
  generalize L[i] = x at *
  by_cases hm : x = 45 ∨ x = 46
  · have ⟨e1, e2, e3⟩ := mark_edge x hm
    by_cases h0 : i = 0
    · rw [if_pos (.inr (.inl ⟨h0, e1⟩))] at hg
      exact .inr (.inr (.inl ⟨hm, .inl h0, hg.symm⟩))
    · by_cases hl : i + 1 = n
      · refine .inr (.inr (.inl ⟨hm, .inr ⟨by omega, hl⟩, ?_⟩))
        split at hg
        · exact hg.symm
        · rw [rgo_done L (i + 1) (by omega), rfin, hp, e1, Bool.and_false] at hg
          exact hg.symm
      · by_cases h46 : x = 46
        · by_cases hp46 : prev L i = 46
          · rw [if_pos (.inr (.inr ⟨h46, hp46⟩))] at hg
            exact .inr (.inr (.inr (.inl ⟨h46, by omega, by omega, hp46, hg.symm⟩)))
          · rw [if_neg (by rintro (h | ⟨h, _⟩ | ⟨_, h⟩); rw [e2] at h; cases h; exact h0 h; exact hp46 h)] at hg
            exact .inr (.inr (.inr (.inr (.inl ⟨h46, by omega, by omega, hp46, hg⟩))))
        · rw [if_neg (by rintro (h | ⟨h, _⟩ | ⟨h, _⟩); rw [e2] at h; cases h; exact h0 h; exact h46 h)] at hg
          exact .inr (.inr (.inr (.inr (.inr ⟨by omega, by omega, by omega, hg⟩))))
  · have hx : x ≠ 45 ∧ x ≠ 46 := by omega
    cases hl : letR x
    · have : okR x = false := by rw [ok_let, hl]; simp; omega
      rw [if_pos (.inl this)] at hg
      exact .inl ⟨rfl, hx.1, hx.2, hg.symm⟩
    · have ⟨e1, e2, _, _⟩ := let_edge x hl
      rw [if_neg (by rintro (h | ⟨_, h⟩ | ⟨h, _⟩); rw [e2] at h; cases h; rw [e1] at h; cases h; exact hx.2 h)] at hg
      exact .inr (.inl ⟨rfl, hx.1, hx.2, hg, by rw [hp]; exact e1⟩)
set_option maxHeartbeats 6400000 in
theorem refRight_walk (s : ByteArray) (L : List Nat) (n : Nat) (v : Bool) (w : World) (hs : s.size ≤ 32) (HL : Hid (RS s 0 = L)) (hn : Hid (L.length = n)) (n1 : 1 ≤ n) (n2 : n ≤ 16) (hr : Hid (∀ r ∈ L, r ≤ 1114111)) (hv : Hid (rfin (rgo L 0 0) = v)) :
    Calls Try.prog 54 #[.string s] w fun e w' => e = .returned (.bool v) ∧ Below w.heap.size w w' := by
  go_enter Try.func54, Try.ntmps54
  go_wp2_with fail
  refine (refRunes0_any _ _ (by omega)).mono ?_
  rw [HL.out]
  rintro e w1 ⟨⟨a, cap, rfl, hN⟩, bb⟩
  rcases hN with ⟨h0, _, _⟩ | ⟨g, rfl, hg1, hg2, hc1, hc2, hcell⟩
  · have := hn.out; rw [h0] at this; simp at this; omega
  rw [hn.out]
  have hc1' : n ≤ cap := by have := hn.out; omega
  have hc2' : cap ≤ 9223372036854775807 := hc2
  have HC := Lib.hid hcell
  clear hcell hc1 hc2
  go_wp2_with fail
  go_loop [4, 5] (fun i _ => ∃ j : Nat, j ≤ n ∧ i = .int .i64 (j : Int) ∧ Hid (rfin (rgo (L.drop j) j (prev L j)) = v) ∧ Hid (j = n → edgeR (prev L j) = true)) (fun i _ => n + 1 - (intOf i).toNat)
  case atStart => exact ⟨0, by omega, rfl, hv, Lib.hid (fun h => by omega)⟩
  case round =>
    obtain ⟨j, hj, rfl, hg, hE⟩ := hrel
    by_cases hlt : j < n
    · have hli : (j : Int) < (n : Int) := by omega
      obtain ⟨x, hx, hways⟩ := right_round L j n v hn.out hlt n2 hg.out
      have hjL : j < L.length := by rw [hn.out]; exact hlt
      have hcj := HC.out j hjL
      rw [List.getElem?_eq_getElem hjL] at hx
      have hxe : L[j] = x := Option.some.inj hx
      rw [hxe] at hcj
      have hxl : x ≤ 1114111 := by rw [← hxe]; exact hr.out _ (List.getElem_mem hjL)
      clear hx hxe hg hlt
      rcases hways with ⟨h1, h2, h3, h4⟩ | ⟨h1, h2, h3, h4, h5⟩ | ⟨h1, h2, h3⟩ | ⟨rfl, h2, h3, h4, h5⟩ | ⟨rfl, h2, h3, h4, h5⟩ | ⟨rfl, h2, h3, h4⟩
      · have q1 : ((x : Int) == 45) = false := by simp; omega
        have q2 : ((x : Int) == 46) = false := by simp; omega
        have HL1 := Lib.hid h1
        have V := Lib.hid h4
        clear h1 h2 h3 h4
        go_wp2_with fail
        refine (letter_is _ false _ hxl HL1.out).mono ?_
        rintro e w9 ⟨rfl, rfl⟩
        go_wp2_with fail
        go_ret
        exact ⟨ret_bool V.out.symm, bb⟩
      · have q1 : ((x : Int) == 45) = false := by simp; omega
        have q2 : ((x : Int) == 46) = false := by simp; omega
        have HL1 := Lib.hid h1
        have NX := Lib.hid h4
        have NE : Hid (j + 1 = n → edgeR (prev L (j + 1)) = true) := Lib.hid (fun _ => h5)
        clear h1 h2 h3 h4 h5
        rcases (show j = 0 ∨ 0 < j by omega) with h0 | h0
        all_goals
          first | (have p1 : (j : Int) ≤ 0 := by omega) | (have p1 : 0 < (j : Int) := by omega)
          clear h0
          go_wp2_with fail
          refine (letter_is _ true _ hxl HL1.out).mono ?_
          rintro e w9 ⟨rfl, rfl⟩
          go_wp2_with fail
          go_round
          case rel => exact ⟨j + 1, by omega, by go_num, NX, NE⟩
          case measure => simp [intOf]; omega
      · have V := Lib.hid h3
        clear h3
        rcases h1 with rfl | rfl <;> rcases h2 with h2 | ⟨h2, h2'⟩
        · have p1 : ((j : Int) == 0) = true := by simp; omega
          clear h2
          go_wp2_with fail
          go_ret
          exact ⟨ret_bool V.out.symm, bb⟩
        · have p1 : ((j : Int) == 0) = false := by simp; omega
          have p2 : ((j : Int) == (n : Int) - 1) = true := by simp; omega
          clear h2 h2'
          go_wp2_with fail
          go_ret
          exact ⟨ret_bool V.out.symm, bb⟩
        · have p1 : ((j : Int) == 0) = true := by simp; omega
          clear h2
          go_wp2_with fail
          go_ret
          exact ⟨ret_bool V.out.symm, bb⟩
        · have p1 : ((j : Int) == 0) = false := by simp; omega
          have p2 : ((j : Int) == (n : Int) - 1) = true := by simp; omega
          clear h2 h2'
          go_wp2_with fail
          go_ret
          exact ⟨ret_bool V.out.symm, bb⟩
      · obtain ⟨t, rfl⟩ : ∃ t, j = t + 1 := ⟨j - 1, by omega⟩
        have htL : t < L.length := by omega
        have hct := HC.out t htL
        rw [prev_succ L t htL] at h4
        rw [h4] at hct
        have hl2 : (t : Int) + 1 < (n : Int) := by omega
        clear hli
        have p1 : ((t : Int) + 1 == 0) = false := by simp; omega
        have p2 : ((t : Int) + 1 == (n : Int) - 1) = false := by simp; omega
        have p3 : 0 < (t : Int) + 1 := by omega
        have V := Lib.hid h5
        clear h2 h3 h4 h5 hjL htL
        go_wp2_with fail
        go_ret
        exact ⟨ret_bool V.out.symm, bb⟩
      · obtain ⟨t, rfl⟩ : ∃ t, j = t + 1 := ⟨j - 1, by omega⟩
        have htL : t < L.length := by omega
        have hct := HC.out t htL
        rw [prev_succ L t htL] at h4
        generalize L[t] = y at *
        have p0 : ((y : Int) == 46) = false := by simp; omega
        have hl2 : (t : Int) + 1 < (n : Int) := by omega
        clear hli
        have p1 : ((t : Int) + 1 == 0) = false := by simp; omega
        have p2 : ((t : Int) + 1 == (n : Int) - 1) = false := by simp; omega
        have p3 : 0 < (t : Int) + 1 := by omega
        have NX := Lib.hid h5
        have NE : Hid (t + 1 + 1 = n → edgeR (prev L (t + 1 + 1)) = true) := Lib.hid (fun h => by omega)
        clear h2 h4 h5 hjL htL
        go_wp2_with fail
        go_round
        case rel => exact ⟨t + 1 + 1, by omega, by go_num, NX, NE⟩
        case measure => simp [intOf]; omega
      · obtain ⟨t, rfl⟩ : ∃ t, j = t + 1 := ⟨j - 1, by omega⟩
        have hl2 : (t : Int) + 1 < (n : Int) := by omega
        clear hli
        have p1 : ((t : Int) + 1 == 0) = false := by simp; omega
        have p2 : ((t : Int) + 1 == (n : Int) - 1) = false := by simp; omega
        have p3 : 0 < (t : Int) + 1 := by omega
        have NX := Lib.hid h4
        have NE : Hid (t + 1 + 1 = n → edgeR (prev L (t + 1 + 1)) = true) := Lib.hid (fun h => by omega)
        clear h2 h4 hjL
        go_wp2_with fail
        go_round
        case rel => exact ⟨t + 1 + 1, by omega, by go_num, NX, NE⟩
        case measure => simp [intOf]; omega
    · have V : Hid (true = v) := Lib.hid (by
        have h := hg.out
        have hjn : j = n := by omega
        rw [rgo_done L j (by rw [hn.out]; omega), rfin, hE.out hjn] at h
        rw [← h]
        simp
        omega)
      have hli : (n : Int) ≤ (j : Int) := by omega
      clear hg hE
      go_wp2_with fail
      go_ret
      exact ⟨ret_bool V.out, bb⟩
end Go.Proofs.Ytlbnakoaflladaa
