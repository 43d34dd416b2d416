/-
 SlotEpochsLaw.
-/
import Derived.Test.YthcejfnngkmojaaGreatDoorMzEp
import Derived.Test.YthcejfnngkmojaaGreatDoorMzSlM
namespace Go.Proofs.YthcejfnngkmojaaGreatDoor
open Go Go.RowKit
set_option maxRecDepth 20000
set_option maxHeartbeats 12800000
set_option linter.unusedVariables false
set_option linter.unusedSimpArgs false
theorem slotEpochs_walk (a : Int) (m : Nat) (w : World) (a0 : -9223372036854775808 ≤ a) (a1 : a ≤ 9223372036854775807) (hf : (a < 0 ∧ -((a + 1).tmod 41) = (m : Int)) ∨ (0 ≤ a ∧ a % 41 = (m : Int))) (hm : m < 41) :
  Calls Tryz.prog 5 #[.int .i64 a] w fun e w' => e = .returned (.bool true) ∧ Below w.heap.size w w' := by
 rcases hf with ⟨ha, hr⟩ | ⟨ha, hr⟩
 all_goals
  go_enter Tryz.func5, Tryz.ntmps5;try simp only [List.append_eq, List.cons_append, List.nil_append]
  go_wp2_with fail;refine (examples_yes17 _).mono ?_;rintro e w1 ⟨rfl, b1⟩;have B1 := Hd b1;clear b1;go_wp2_with fail;refine (made17_is _).mono ?_;rintro e w2 ⟨t, d, s, rfl, h1⟩;have sn := ptr_nilT ⟨t, 0, none⟩;have HT0 := Hd h1;clear h1;go_upto_region 10 with fail
  try simp only [hr, show decide (a < 0) = false from decide_eq_false (by omega)]
  clear ha hr a0 a1;go_wp2_with fail
  go_loopw [5] (fun i wr => ∃ j : Nat, i = .int .i64 (j : Int) ∧ j ≤ m ∧ Hid (TxS w1 [] wr t d s 640 (slE 0 (epL j))) ∧ Hid (SlL (epL j))) (fun i _ => m - (intOf i).toNat)
  case atStart => exact ⟨0, rfl, Nat.zero_le _, HT0, Hd slL_nil⟩
  case round =>
   obtain ⟨j, rfl, hj, HT, HL⟩ := hrel
   by_cases hjm : j < m
   ·have hli : (j : Int) < (m : Int) := by omega
    have e4 : IntKind.i64.wrap ((j : Int) + 1) = ((j + 1 : Nat) : Int) := by rw [show (j : Int) + 1 = ((j + 1 : Nat) : Int) by omega]; exact IntWalk.i64_in _ (by omega)
    have e5 : IntKind.u64.wrap (j : Int) = (j : Int) := IntWalk.u64_in _ (by omega);have TK := Hd (take_ep HT.out HL.out (by omega));have AT2 := epL_at j;have ATM := epM_at j;obtain ⟨q, hq⟩ : ∃ q, j / 15 = q := ⟨_, rfl⟩
    obtain ⟨r, hr15⟩ : ∃ r, j % 15 = r := ⟨_, rfl⟩
    rw [hq, hr15] at TK AT2 ATM;have HA2 := Hd AT2;have HAM := Hd ATM;obtain ⟨p, hp⟩ : ∃ p : Int, ((q + 1 : Nat) : Int) = p := ⟨_, rfl⟩
    rw [hp] at TK;have HP := Hd hp;clear AT2 ATM;have q1 : (j : Int) / 15 = (q : Int) := by omega
    have q2 : (j : Int) % 15 = (r : Int) := by omega
    have q3 : (j : Int).tdiv 15 = (q : Int) := by rw [Int.tdiv_eq_ediv_of_nonneg (by omega)]; exact q1
    have q4 : (j : Int).tmod 15 = (r : Int) := by rw [Int.tmod_eq_emod_of_nonneg (by omega)]; exact q2
    have q5 : IntKind.i64.wrap (1 + (q : Int)) = p := by rw [show 1 + (q : Int) = p by omega]; exact IntWalk.i64_in _ (by omega)
    have q6 : IntKind.i64.wrap (1 + (r : Int)) = (r : Int) + 1 := by rw [show 1 + (r : Int) = (r : Int) + 1 by omega]; exact IntWalk.i64_in _ (by omega)
    have q7 : IntKind.i64.wrap ((r : Int) + 1 + 1) = (r : Int) + 1 + 1 := IntWalk.i64_in _ (by omega);have q8 : IntKind.i64.wrap (q : Int) = (q : Int) := IntWalk.i64_in _ (by omega);have HJ := Hd hjm;clear hjm hq hr15 hj hp;go_wp2_with fail;refine TK.out.mono ?_;rintro e w3 ⟨rfl, h1, _, hL⟩;obtain ⟨bx, hbx⟩ : ∃ b, w3.heap.size = b := ⟨_, rfl⟩
    obtain ⟨x1, hx1⟩ : ∃ x, w3.alloc (.cells #[.int .i64 p, .int .i64 3, .int .i64 ((r : Int) + 1), .int .u64 (j : Int)] 37) = x := ⟨_, rfl⟩
    obtain ⟨c1, c2, c3, c4, c5, c6, c7⟩ := h1.box (.cells #[.int .i64 p, .int .i64 3, .int .i64 ((r : Int) + 1), .int .u64 (j : Int)] 37);rw [hx1] at c1 c2 c3 c5;rw [hbx] at c1 c3 c4 c5 c6 c7;have X1 := Hd (And.intro hx1 hbx);obtain ⟨⟨y0, y1, y2, y3⟩, _⟩ := cellsS c3;have M3 := Hd (And.intro c3 c4);have HLM := Hd hL;have AT := sat_L c1 hL HAM.out;rw [HP.out] at AT;have AT := Hd AT;clear h1 hx1 hbx c1 c2 c3 c4 c5 c6 c7 hL TK;go_upto_region 14 with fail
    rw [X1.out.1, X1.out.2];go_upto_region 16 with fail
    go_wp2_with fail;refine AT.out.mono ?_;rintro e w4 ⟨rfl, h1, k1⟩;have N4 := Hd ((k1 bx (by simp) M3.out.2).trans M3.out.1);obtain ⟨bw, hbw⟩ : ∃ b, w4.heap.size = b := ⟨_, rfl⟩
    obtain ⟨x2, hx2⟩ : ∃ x, w4.alloc (.cells #[.int .i64 p, .int .i64 3, .int .i64 ((r : Int) + 1), .int .u64 (j : Int)] 37) = x := ⟨_, rfl⟩
    obtain ⟨d1, d2, d3, d4, d5, d6, d7⟩ := h1.box (.cells #[.int .i64 p, .int .i64 3, .int .i64 ((r : Int) + 1), .int .u64 (j : Int)] 37);rw [hx2] at d1 d2 d3 d5;rw [hbw] at d1 d3 d4 d5 d6 d7;have X2 := Hd (And.intro hx2 hbw);have M4 := Hd (And.intro ((d2 bx (by simp) M3.out.2).trans N4.out) (And.intro d3 d4));have FR := Hd (free_ep d1 HLM.out);clear h1 k1 hx2 hbw d1 d2 d3 d4 d5 d6 d7 y0 y1 y2 y3 AT N4;go_upto_region 17 with fail
    rw [X2.out.1, X2.out.2];go_wp2_with fail;refine FR.out.mono ?_;rintro e w5 ⟨rfl, h1, k1⟩;have m5 := (k1 bx (by simp) M3.out.2).trans M4.out.1;have M5 := Hd (And.intro m5 ((k1 bw (by simp) M4.out.2.2).trans M4.out.2.1));obtain ⟨⟨y0, y1, y2, y3⟩, _⟩ := cellsS m5;have AT := sat_L h1 (epM_ok HLM.out) HA2.out;rw [HP.out] at AT;have AT := Hd AT;clear h1 k1 m5 FR;go_wp2_with fail;refine AT.out.mono ?_;rintro e w6 ⟨rfl, h1, k1⟩;have m6 := (k1 bx (by simp) M3.out.2).trans M5.out.1;have n6 := (k1 bw (by simp) M4.out.2.2).trans M5.out.2;obtain ⟨bz, hbz⟩ : ∃ b, w6.heap.size = b := ⟨_, rfl⟩
    obtain ⟨x3, hx3⟩ : ∃ x, w6.alloc (.cells #[.int .i64 p, .int .i64 0, .int .i64 ((r : Int) + 1 + 1), .int .u64 0] 37) = x := ⟨_, rfl⟩
    obtain ⟨g1, g2, g3, g4, g5, g6, g7⟩ := h1.box (.cells #[.int .i64 p, .int .i64 0, .int .i64 ((r : Int) + 1 + 1), .int .u64 0] 37);rw [hx3] at g1 g2 g3 g5;rw [hbz] at g1 g3 g4 g5 g6 g7;have X3 := Hd (And.intro hx3 hbz);have T6 := Hd (g1.sub (R' := []) fun k hk => by cases hk);clear y0 y1 y2 y3;obtain ⟨⟨y0, y1, y2, y3⟩, _⟩ := cellsS ((g2 bx (by simp) M3.out.2).trans m6);obtain ⟨⟨z0, z1, z2, z3⟩, _⟩ := cellsS ((g2 bw (by simp) M4.out.2.2).trans n6);obtain ⟨⟨v0, v1, v2, v3⟩, _⟩ := cellsS g3;clear h1 k1 hx3 hbz g1 g2 g3 g4 g5 g6 g7 m6 n6 AT;go_upto_region 19 with fail
    rw [X3.out.1, X3.out.2];go_wp2_with fail;go_roundw
    case rel => exact ⟨j + 1, rfl, HJ.out, T6, Hd (epM_ok HLM.out)⟩
    case measure => have := HJ.out; simp [intOf]; omega
   ·obtain rfl : j = m := by omega
    have hli : ¬ (j : Int) < (j : Int) := by omega
    have FIN := Hd (chain B1.out HT.out.from);go_wp2_with fail;go_ret;exact ⟨rfl, FIN.out⟩
theorem slotEpochs_law (a0 : Int) (w : World) (w0 : (Lit.int .i64 a0).wf = true) :
  Calls Tryz.prog 5 #[.int .i64 a0] w fun e w' => e = .returned (.bool true) ∧ Below w.heap.size w w' := by
 obtain ⟨m, h1, h2⟩ := norm_mod17 a0 41 (by decide);obtain ⟨r1, r2⟩ := i64_range17 a0 w0;exact slotEpochs_walk a0 m w r1 r2 h2 h1
end Go.Proofs.YthcejfnngkmojaaGreatDoor
