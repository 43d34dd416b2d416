/-
  The law ShadowHands.
-/
import Derived.Test.YtbjmbndeaobbeaaDoorShMk
import Derived.Deep.DeepCutAuto
namespace Go.Proofs.YtbjmbndeaobbeaaDoor
open Go.RowKit
set_option linter.unusedVariables false
set_option linter.unusedSimpArgs false
theorem fmt_cnt : cntL fmtH.used.data.toList = 0 := by decide +kernel
theorem fmt_has (i : Int) : hasB fmtH.used i = false := by
  show hasB (Str (List.replicate 80 0)) i = false
  unfold hasB bitL
  rw [Str_list]
  split
  · rw [List.getElem_replicate]
    simp
  · simp
/-- The first k pages. -/
def tk : Nat → List Int
  | 0 => []
  | k + 1 => tk k ++ [((k + 2 : Nat) : Int)]
theorem tk_len (k : Nat) : (tk k).length = k := by
  induction k with
  | zero => rfl
  | succ k ih => unfold tk; rw [List.length_append, ih]; rfl
theorem tk_mem (k : Nat) (i : Nat) : (i : Int) ∈ tk k ↔ 2 ≤ i ∧ i < k + 2 := by
  induction k with
  | zero => simp [tk] <;> omega
  | succ k ih => unfold tk; rw [List.mem_append, ih]; simp; omega
def hS (L : List Int) : ShS := { ShS.new fmtH with fresh := L }
theorem hS_free (L : List Int) (i : Int) : freeB (hS L) i = !decide (i ∈ L) := by
  unfold freeB
  rw [show (hS L).h.used = fmtH.used from rfl, fmt_has]
  rfl
theorem hS_left (L : List Int) (n : Nat) : leftN (hS L) n = (n : Int) - 2 - (L.length : Int) := by
  unfold leftN
  rw [show (hS L).h.used = fmtH.used from rfl, fmt_cnt]
  show (n : Int) - 2 - ((0 : Nat) : Int) - (L.length : Int) = _
  omega
theorem hS_used (L : List Int) (n : Nat) : usedN (hS L) n = 0 := by
  unfold usedN
  have key : ∀ k, usedL (hS L) n k = 0 := by
    intro k
    induction k with
    | zero => rfl
    | succ k ih =>
      unfold usedL
      rw [ih, show (hS L).h.used = fmtH.used from rfl, fmt_has]
      simp
  exact key n
theorem hS_give (L : List Int) (i : Int) (h : i ∈ L) : (hS L).give i = (hS (L.filter fun x => decide (x ≠ i)), 0) := by
  unfold ShS.give
  rw [if_neg (by show ¬ (true : Bool) = false; decide), if_pos (show i ∈ (hS L).fresh from h)]
  rfl
theorem hS_give_no (L : List Int) (i : Int) (h : i ∉ L) : (hS L).give i = (hS L, 6) := by
  unfold ShS.give
  rw [if_neg (by show ¬ (true : Bool) = false; decide), if_neg (show ¬ i ∈ (hS L).fresh from h), if_neg]
  rw [show (hS L).h.used = fmtH.used from rfl, fmt_has]
  simp
set_option maxHeartbeats 6400000 in
set_option maxRecDepth 20000 in
theorem shadowHands_law (a0 a1 : Int) (w : World) (v0 : (Lit.int .i64 a0).wf = true) (v1 : (Lit.int .i64 a1).wf = true) :
    Calls Tryd.prog 4 #[.int .i64 a0, .int .i64 a1] w fun e w' => e = .returned (.bool true) ∧ Below w.heap.size w w' := by
  have k0 := bounds_i64 v0
  have k1 := bounds_i64 v1
  have K0 := Lib.hid k0
  have K1 := Lib.hid k1
  clear v0 v1 k0 k1
  go_enter Tryd.func4, Tryd.ntmps4
  try simp only [List.append_eq, List.cons_append, List.nil_append]
  go_wp2_with fail
  refine (examples_yes _).mono ?_
  rintro e w1 ⟨rfl, b1⟩
  have B1 := Lib.hid b1
  clear b1
  go_upto_if 23 with fail
  go_cut [0] (fun v wx => (∃ q : Nat, v = .int .i64 (q : Int) ∧ (q : Int) ≤ 9223372036854775807) ∧ w1 = wx)
  case first =>
    have hout := K0.out
    by_cases hneg : a0 < 0
    · have e1 : IntKind.i64.wrap (a0 + 1) = a0 + 1 := IntWalk.i64_in _ (by omega)
      obtain ⟨q, hq⟩ : ∃ q : Nat, -(a0 + 1) = (q : Int) := ⟨(-(a0 + 1)).toNat, by omega⟩
      have e2 : IntKind.i64.wrap (-(a0 + 1)) = (q : Int) := by rw [hq]; exact IntWalk.i64_in _ (by omega)
      have hq2 := Lib.hid (show (q : Int) ≤ 9223372036854775807 by omega)
      clear hq
      clear hout
      go_wp2_with fail
      go_meet
      exact ⟨⟨_, rfl, hq2.out⟩, rfl⟩
    · have hoe : a0 = ((a0.toNat : Nat) : Int) := by omega
      have hq2 := Lib.hid (show ((a0.toNat : Nat) : Int) ≤ 9223372036854775807 by omega)
      generalize a0.toNat = q at hoe hq2
      subst hoe
      clear hout
      have hneg' : ¬ (q : Int) < 0 := by omega
      go_wp2_with fail
      go_meet
      exact ⟨⟨_, rfl, hq2.out⟩, rfl⟩
  case rest =>
    obtain ⟨⟨x, rfl, hx⟩, rfl⟩ := hcut
    have HX := Lib.hid hx
    clear hx K0
    go_upto_if 28 with fail
    go_cut [1] (fun v wx => (∃ q : Nat, v = .int .i64 (q : Int) ∧ (q : Int) ≤ 9223372036854775807) ∧ w1 = wx)
    case first =>
      have hout := K1.out
      by_cases hneg : a1 < 0
      · have e1 : IntKind.i64.wrap (a1 + 1) = a1 + 1 := IntWalk.i64_in _ (by omega)
        obtain ⟨q, hq⟩ : ∃ q : Nat, -(a1 + 1) = (q : Int) := ⟨(-(a1 + 1)).toNat, by omega⟩
        have e2 : IntKind.i64.wrap (-(a1 + 1)) = (q : Int) := by rw [hq]; exact IntWalk.i64_in _ (by omega)
        have hq2 := Lib.hid (show (q : Int) ≤ 9223372036854775807 by omega)
        clear hq
        clear hout
        go_wp2_with fail
        go_meet
        exact ⟨⟨_, rfl, hq2.out⟩, rfl⟩
      · have hoe : a1 = ((a1.toNat : Nat) : Int) := by omega
        have hq2 := Lib.hid (show ((a1.toNat : Nat) : Int) ≤ 9223372036854775807 by omega)
        generalize a1.toNat = q at hoe hq2
        subst hoe
        clear hout
        have hneg' : ¬ (q : Int) < 0 := by omega
        go_wp2_with fail
        go_meet
        exact ⟨⟨_, rfl, hq2.out⟩, rfl⟩
    case rest =>
      obtain ⟨⟨y, rfl, hy⟩, rfl⟩ := hcut
      have HY := Lib.hid hy
      clear hy K1
      obtain ⟨r, hr⟩ : ∃ r, x % 23 = r := ⟨_, rfl⟩
      have hr23 : r < 23 := by omega
      have hxm : (x : Int).tmod 23 = (r : Int) := by rw [Int.tmod_eq_emod_of_nonneg (by omega)]; omega
      have hxe : (x : Int) % 23 = (r : Int) := by omega
      obtain ⟨n, hn⟩ : ∃ n : Nat, 8 + r = n := ⟨_, rfl⟩
      have hw : IntKind.i64.wrap (8 + (r : Int)) = (n : Int) := by rw [show 8 + (r : Int) = (n : Int) by omega]; exact IntWalk.i64_in _ (by omega)
      have HN := Lib.hid (show 8 ≤ n ∧ n ≤ 30 by omega)
      have MD := Lib.hid (fun w => made_is w n HN.out.1 (by have := HN.out.2; omega))
      have WF := Lib.hid (wrHead_fresh n HN.out.1 (by have := HN.out.2; omega))
      clear hr hn
      go_wp2_with fail
      refine (MD.out _).mono ?_
      rintro e w2 ⟨d, s, rfl, hs⟩
      obtain ⟨dk, hdk⟩ : ∃ dk, (wrHead (DkS.fresh n) fmtH).1 = dk := ⟨_, rfl⟩
      rw [hdk] at hs WF
      have HS2 := Lib.hid (show DSL w1 w2 d s dk (hS (tk 0)) from hs)
      have HL := Lib.hid WF.out.2.1
      clear hs hdk MD WF hw hxm hxe hr23 HX
      have sn := ptr_nilS ⟨s, 0, none⟩
      go_wp2_with fail
      go_loopw [8, 9, 10, 11] (fun i _ _ _ wr => ∃ k : Nat, k + 2 ≤ n ∧ i = .int .i64 ((k + 2 : Nat) : Int) ∧ Hid (DSL w1 wr d s dk (hS (tk k)))) (fun i _ _ _ _ => 31 - (intOf i).toNat)
      case atStart => exact ⟨0, by have := HN.out.1; omega, rfl, HS2⟩
      case round =>
        obtain ⟨k, hk, rfl, HS⟩ := hrel
        have hnn := HN.out
        by_cases hlt : k + 2 < n
        · obtain ⟨i, hi⟩ : ∃ i : Nat, k + 2 = i := ⟨_, rfl⟩
          rw [hi] at hlt
          have hII := Lib.hid hi
          rw [hi]
          have hli : (i : Int) < (n : Int) := by omega
          have LE := Lib.hid (fun wr (h : DSL w1 wr d s dk (hS (tk k))) => left_L h)
          have e1 : leftN (hS (tk k)) dk.S.length = (n : Int) - (i : Int) := by rw [HL.out, hS_left, tk_len]; omega
          rw [e1] at LE
          have TK := Lib.hid (fun wr (h : DSL w1 wr d s dk (hS (tk k))) => take_L h rfl i (by omega) (by rw [HL.out]; omega) (fun j h1 h2 => by rw [hS_free]; simp only [decide_eq_true ((tk_mem k j).2 ⟨h1, by omega⟩)]; rfl) (by rw [hS_free]; rw [decide_eq_false (fun h => by have := (tk_mem k i).1 h; omega)]; rfl))
          have hnext : Hid (∀ wr, DSL w1 wr d s dk { hS (tk k) with fresh := (hS (tk k)).fresh ++ [(i : Int)] } → DSL w1 wr d s dk (hS (tk (k + 1)))) := Lib.hid (fun wr h => by
            have e : tk (k + 1) = tk k ++ [(i : Int)] := by rw [← hi]; rfl
            rw [e]; exact h)
          have FR := Lib.hid (fun wr (h : DSL w1 wr d s dk (hS (tk (k + 1)))) => freshS_L h (i : Int))
          have e2 : decide ((i : Int) ∈ (hS (tk (k + 1))).fresh) = true := decide_eq_true ((tk_mem (k + 1) i).2 ⟨by omega, by omega⟩)
          rw [e2] at FR
          have e3 : IntKind.i64.wrap ((n : Int) - (i : Int)) = (n : Int) - (i : Int) := IntWalk.i64_in _ (by omega)
          have e4 : IntKind.i64.wrap ((i : Int) + 1) = ((i + 1 : Nat) : Int) := by rw [show (i : Int) + 1 = ((i + 1 : Nat) : Int) by omega]; exact IntWalk.i64_in _ (by omega)
          have e5 : ((i : Int) != (i : Int)) = false := by simp
          have e6 : (((n : Int) - (i : Int)) != ((n : Int) - (i : Int))) = false := by simp
          have hi2 := Lib.hid (show i < n ∧ n ≤ 30 by omega)
          clear e1 e2 hi hk hnn hlt
          go_wp2_with fail
          refine (LE.out _ HS.out).mono ?_
          rintro e w3 ⟨rfl, b3⟩
          have HS3 := Lib.hid (HS.out.step b3)
          clear b3 HS
          go_wp2_with fail
          refine (TK.out _ HS3.out).mono ?_
          rintro e w4 ⟨rfl, hs⟩
          have HS4 := Lib.hid (hnext.out _ hs)
          clear hs HS3
          go_wp2_with fail
          refine (FR.out _ HS4.out).mono ?_
          rintro e w5 ⟨rfl, b5⟩
          have HS5 := Lib.hid (HS4.out.step b5)
          clear b5 HS4
          go_wp2_with fail
          go_roundw
          case rel => exact ⟨k + 1, by have := hi2.out; have := hII.out; omega, by have := hII.out; subst this; rfl, HS5⟩
          case measure => have := hi2.out; simp [intOf]; omega
        · obtain rfl : k = n - 2 := by omega
          have hkn : n - 2 + 2 = n := by omega
          rw [hkn]
          obtain ⟨m, hm⟩ : ∃ m, n - 2 = m := ⟨_, rfl⟩
          rw [hm] at HS
          have hge : ¬ (n : Int) < (n : Int) := by omega
          obtain ⟨r, hr⟩ : ∃ r, y % m = r := ⟨_, rfl⟩
          have hrm : r < m := by rw [← hr]; exact Nat.mod_lt _ (by omega)
          have hmI : (n : Int) - 2 = (m : Int) := by omega
          have e0 : IntKind.i64.wrap ((n : Int) - 2) = (m : Int) := by rw [hmI]; exact IntWalk.i64_in _ (by omega)
          have hmz : ((m : Int) == 0) = false := by simp; omega
          have hmp : (0 : Int) < (m : Int) := by omega
          have hym : (y : Int).tmod (m : Int) = (r : Int) := by rw [Int.tmod_eq_emod_of_nonneg (by omega)]; rw [← hr]; rfl
          have hye : (y : Int) % (m : Int) = (r : Int) := by rw [← hr]; rfl
          obtain ⟨g, hg⟩ : ∃ g : Nat, 2 + r = g := ⟨_, rfl⟩
          have e1 : IntKind.i64.wrap (2 + (r : Int)) = (g : Int) := by rw [show 2 + (r : Int) = (g : Int) by omega]; exact IntWalk.i64_in _ (by omega)
          have hG := Lib.hid (show 2 ≤ g ∧ g < n by omega)
          have hM := Lib.hid (show m + 2 = n by omega)
          have FU := Lib.hid (fun wr (h : DSL w1 wr d s dk (hS (tk m))) => takeFull_L h rfl (fun j h1 h2 => by rw [HL.out] at h2; rw [hS_free]; simp only [decide_eq_true ((tk_mem m j).2 ⟨h1, by omega⟩)]; rfl))
          have gm : (g : Int) ∈ tk m := (tk_mem m g).2 ⟨by omega, by omega⟩
          obtain ⟨L1, hL1⟩ : ∃ L, (tk m).filter (fun x => decide (x ≠ (g : Int))) = L := ⟨_, rfl⟩
          have hnb : hasB (hS (tk m)).h.used (g : Int) = true → 2 ≤ (g : Int) ∧ (g : Int) < 640 := fun _ => by omega
          have G1 := Lib.hid (fun wr (h : DSL w1 wr d s dk (hS (tk m))) => give_L h (g : Int) (by omega) hnb)
          rw [hS_give _ _ gm, hL1] at G1
          dsimp only at G1
          have g1 : ¬ (g : Int) ∈ L1 := by rw [← hL1]; simp
          have G2 := Lib.hid (fun wr (h : DSL w1 wr d s dk (hS L1)) => give_L h (g : Int) (by omega) (fun _ => by omega))
          rw [hS_give_no _ _ g1] at G2
          dsimp only at G2
          have TK := Lib.hid (fun wr (h : DSL w1 wr d s dk (hS L1)) => take_L h rfl g (by omega) (by rw [HL.out]; omega) (fun j h1 h2 => by
            have hj : (j : Int) ∈ L1 := by rw [← hL1]; exact List.mem_filter.2 ⟨(tk_mem m j).2 ⟨h1, by omega⟩, decide_eq_true (by omega)⟩
            rw [hS_free]; simp only [decide_eq_true hj]; rfl) (by rw [hS_free]; rw [decide_eq_false g1]; rfl))
          have LE := Lib.hid (fun wr (h : DSL w1 wr d s dk (hS [])) => left_L h)
          have e2 : leftN (hS []) dk.S.length = (m : Int) := by rw [HL.out, hS_left]; show (n : Int) - 2 - 0 = _; omega
          rw [e2] at LE
          have US := Lib.hid (fun wr (h : DSL w1 wr d s dk (hS [])) => used_L h)
          rw [hS_used] at US
          have e5 : ((g : Int) == (g : Int)) = true := by simp
          have e6 : ((m : Int) == (m : Int)) = true := by simp
          clear hr hrm hmI hg gm hL1 hnb g1 e2 hlt hk hnn hm hkn
          go_wp2_with fail
          refine (FU.out _ HS.out).mono ?_
          rintro e w3 ⟨rfl, hs⟩
          have HS3 := Lib.hid hs
          clear hs HS
          go_wp2_with fail
          refine (G1.out _ HS3.out).mono ?_
          rintro e w4 ⟨rfl, hs⟩
          have HS4 := Lib.hid hs
          clear hs HS3
          go_wp2_with fail
          refine (G2.out _ HS4.out).mono ?_
          rintro e w5 ⟨rfl, hs⟩
          have HS5 := Lib.hid hs
          clear hs HS4
          go_wp2_with fail
          refine (TK.out _ HS5.out).mono ?_
          rintro e w6 ⟨rfl, hs⟩
          have HS6 := Lib.hid hs
          clear hs HS5
          go_wp2_with fail
          refine (rollback_L HS6.out).mono ?_
          rintro e w7 ⟨rfl, hs⟩
          have HS7 := Lib.hid (show DSL w1 w7 d s dk (hS []) from hs)
          clear hs HS6
          go_wp2_with fail
          refine (LE.out _ HS7.out).mono ?_
          rintro e w8 ⟨rfl, b8⟩
          have HS8 := Lib.hid (HS7.out.step b8)
          clear b8 HS7
          go_wp2_with fail
          refine (US.out _ HS8.out).mono ?_
          rintro e w9 ⟨⟨a, cap, rfl⟩, b9⟩
          have HS9 := Lib.hid (chain B1.out (HS8.out.step b9).below)
          clear b9 HS8
          go_wp2_with fail
          go_ret
          exact ⟨rfl, HS9.out⟩
end Go.Proofs.YtbjmbndeaobbeaaDoor
