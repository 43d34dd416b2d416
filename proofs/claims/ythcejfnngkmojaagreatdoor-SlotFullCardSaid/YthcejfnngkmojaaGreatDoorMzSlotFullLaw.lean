/-
 SlotFullLaw.
-/
import Derived.Test.YthcejfnngkmojaaGreatDoorMzFu
import Derived.Test.YthcejfnngkmojaaGreatDoorMzSlM
namespace Go.Proofs.YthcejfnngkmojaaGreatDoor
open Go Go.RowKit
set_option maxRecDepth 20000
set_option maxHeartbeats 12800000
set_option linter.unusedVariables false
set_option linter.unusedSimpArgs false
theorem slotFull_walk (f a : Int) (m : Nat) (w : World) (HF : Hid (0 ≤ f ∧ f ≤ 4294967295)) (a0 : -9223372036854775808 ≤ a) (a1 : a ≤ 9223372036854775807) (hf : (a < 0 ∧ -((a + 1).tmod 200) = (m : Int)) ∨ (0 ≤ a ∧ a % 200 = (m : Int))) (hm : m < 200) :
  Calls Tryz.prog 6 #[.int .u32 f, .int .i64 a] w fun e w' => e = .returned (.bool true) ∧ Below w.heap.size w w' := by
 have HC := Hd hm;have q0 : IntKind.i64.wrap (1 + (m : Int)) = (m : Int) + 1 := by rw [show 1 + (m : Int) = (m : Int) + 1 by omega]; exact IntWalk.i64_in _ (by omega)
 obtain ⟨cc, hcc⟩ : ∃ cc : Int, (m : Int) + 1 = cc := ⟨_, rfl⟩
 rw [hcc] at q0;have HPC := Hd hcc;clear hcc hm
 rcases hf with ⟨ha, hr⟩ | ⟨ha, hr⟩
 all_goals
  go_enter Tryz.func6, Tryz.ntmps6;try simp only [List.append_eq, List.cons_append, List.nil_append]
  go_wp2_with fail;refine (examples_yes17 _).mono ?_;rintro e w1 ⟨rfl, b1⟩;have B1 := Hd b1;clear b1;go_wp2_with fail;refine (made17_is _).mono ?_;rintro e w2 ⟨t, d, s, rfl, h1⟩;have sn := ptr_nilT ⟨t, 0, none⟩;have HT0 := Hd h1;clear h1;go_upto_region 10 with fail
  try simp only [hr, q0, show decide (a < 0) = false from decide_eq_false (by omega)]
  clear ha hr a0 a1 q0;go_wp2_with fail
  go_loopw [7] (fun i wr => ∃ j : Nat, i = .int .i64 ((j : Int) + 1) ∧ j ≤ 200 ∧ Hid (TxS w1 [] wr t d s 640 (slE 0 (fuL f j))) ∧ Hid (SlL (fuL f j))) (fun i _ => 201 - (intOf i).toNat)
  case atStart => exact ⟨0, rfl, Nat.zero_le _, HT0, Hd slL_nil⟩
  case round =>
   obtain ⟨j, rfl, hj, HT, HL⟩ := hrel
   by_cases hjm : j < 200
   ·have hli : (j : Int) + 1 ≤ 200 := by omega
    have e4 : IntKind.i64.wrap ((j : Int) + 1 + 1) = ((j + 1 : Nat) : Int) + 1 := by rw [show (j : Int) + 1 + 1 = ((j + 1 : Nat) : Int) + 1 by omega]; exact IntWalk.i64_in _ (by omega)
    have e5 : IntKind.u64.wrap ((j : Int) + 1) = (j : Int) + 1 := IntWalk.u64_in _ (by omega);have e6 : IntKind.u64.wrap (f + ((j : Int) + 1)) = f + ((j : Int) + 1) := IntWalk.u64_in _ (by have := HF.out; omega);have e7 : IntKind.u64.wrap f = f := IntWalk.u64_in _ (by have := HF.out; omega);have TK := Hd (take_fu HT.out HL.out hjm HF.out);have HJ := Hd hjm;obtain ⟨p, hp⟩ : ∃ p : Int, (j : Int) + 1 = p := ⟨_, rfl⟩
    rw [hp] at hli e4 e5 e6 TK ⊢;have HP := Hd hp;clear hjm hj hp;go_wp2_with fail;refine TK.out.mono ?_;rintro e w3 ⟨rfl, h1, _, hL⟩;obtain ⟨bx, hbx⟩ : ∃ b, w3.heap.size = b := ⟨_, rfl⟩
    obtain ⟨x1, hx1⟩ : ∃ x, w3.alloc (.cells #[.int .i64 p, .int .i64 p, .int .i64 1, .int .u64 (f + p)] 37) = x := ⟨_, rfl⟩
    obtain ⟨c1, c2, c3, c4, c5, c6, c7⟩ := h1.box (.cells #[.int .i64 p, .int .i64 p, .int .i64 1, .int .u64 (f + p)] 37);rw [hx1] at c1 c2 c3 c5;rw [hbx] at c1 c3 c4 c5 c6 c7;have Xx1 := Hd (And.intro hx1 hbx);clear hx1 hbx;obtain ⟨⟨y0, y1, y2, y3⟩, _⟩ := cellsS c3;have T6 := Hd (c1.sub (R' := []) fun k hk => by cases hk);have HLM := Hd hL;clear h1 hL c1 c2 c3 c4 c5 c6 c7 TK;go_upto_region 14 with fail
    rw [Xx1.out.1, Xx1.out.2];go_wp2_with fail;go_roundw
    case rel => exact ⟨j + 1, rfl, HJ.out, T6, HLM⟩
    case measure => have := HJ.out; have := HP.out; simp [intOf]; omega
   ·obtain rfl : j = 200 := by omega
    have hli : ¬ ((200 : Nat) : Int) + 1 ≤ 200 := by decide
    have e7 : IntKind.u64.wrap f = f := IntWalk.u64_in _ (by have := HF.out; omega);have FU := Hd (full_fu HT.out HL.out);have HL2 := HL;clear hj;go_wp2_with fail;refine FU.out.mono ?_;rintro e w3 ⟨rfl, h1, _⟩;obtain ⟨bx, hbx⟩ : ∃ b, w3.heap.size = b := ⟨_, rfl⟩
    obtain ⟨x1, hx1⟩ : ∃ x, w3.alloc (.cells #[.int .i64 0, .int .i64 0, .int .i64 0, .int .u64 0] 37) = x := ⟨_, rfl⟩
    obtain ⟨c1, c2, c3, c4, c5, c6, c7⟩ := h1.box (.cells #[.int .i64 0, .int .i64 0, .int .i64 0, .int .u64 0] 37);rw [hx1] at c1 c2 c3 c5;rw [hbx] at c1 c3 c4 c5 c6 c7;have Xx1 := Hd (And.intro hx1 hbx);clear hx1 hbx;have FR := Hd (free_fu c1 HL2.out HC.out);rw [HPC.out] at FR;clear h1 c1 c2 c3 c4 c5 c6 c7 FU;go_upto_region 17 with fail
    rw [Xx1.out.1, Xx1.out.2];go_wp2_with fail;refine FR.out.mono ?_;rintro e w4 ⟨rfl, h1, _, hL⟩;have AG := Hd (again_fu h1 hL HC.out HF.out);rw [HPC.out] at AG;clear h1 hL FR;go_wp2_with fail;refine AG.out.mono ?_;rintro e w5 ⟨rfl, h1, _⟩;obtain ⟨by_, hby⟩ : ∃ b, w5.heap.size = b := ⟨_, rfl⟩
    obtain ⟨x2, hx2⟩ : ∃ x, w5.alloc (.cells #[.int .i64 cc, .int .i64 5, .int .i64 2, .int .u64 f] 37) = x := ⟨_, rfl⟩
    obtain ⟨s2, m2, b2⟩ := box_at hx2 hby;obtain ⟨⟨y0, y1, y2, y3⟩, _⟩ := cellsS m2;have X2 := Hd (And.intro hx2 hby);have FIN := Hd (chain B1.out (chain h1 b2));clear h1 hx2 hby s2 m2 b2 AG;go_upto_region 19 with fail
    rw [X2.out.1, X2.out.2];go_wp2_with fail;go_ret;exact ⟨rfl, FIN.out⟩
theorem slotFull_law (a0 a1 : Int) (w : World) (w0 : (Lit.int .u32 a0).wf = true) (w1 : (Lit.int .i64 a1).wf = true) :
  Calls Tryz.prog 6 #[.int .u32 a0, .int .i64 a1] w fun e w' => e = .returned (.bool true) ∧ Below w.heap.size w w' := by
 obtain ⟨m, h1, h2⟩ := norm_mod17 a1 200 (by decide);obtain ⟨r1, r2⟩ := i64_range17 a1 w1
 have h0 : 0 ≤ a0 ∧ a0 ≤ 4294967295 := by
  simp only [Lit.wf, Bool.and_eq_true, decide_eq_true_eq] at w0;exact w0
 exact slotFull_walk a0 a1 m w (Hd h0) r1 r2 h2 h1
end Go.Proofs.YthcejfnngkmojaaGreatDoor
