/-
 HandleApartLaw.
-/
import Derived.Test.YthcejfnngkmojaaGreatDoorN21
namespace Go.Proofs.YthcejfnngkmojaaGreatDoor
open Go Go.RowKit
set_option maxRecDepth 20000
set_option maxHeartbeats 12800000
set_option linter.unusedVariables false
set_option linter.unusedSimpArgs false
theorem CL {s ep nn k s' ep' nn' k' : Int} (h : fY s ep k = true) (h' : fY s' ep' k' = true) (n0 : 0 ≤ nn ∧ nn ≤ 18446744073709551615) (n1 : 0 ≤ nn' ∧ nn' ≤ 18446744073709551615) (key : ByteArray) : cB s ep nn k key = cB s' ep' nn' k' key ↔ (s = s' ∧ ep = ep' ∧ nn = nn' ∧ k = k') := by
 constructor
 ·intro e
  obtain ⟨_, _, a1, a2, a3, a4, _⟩ := fX h n0.1 n0.2 key;obtain ⟨_, _, b1, b2, b3, b4, _⟩ := fX h' n1.1 n1.2 key;rw [e] at a1 a2 a3 a4;exact ⟨a1.symm.trans b1, a2.symm.trans b2, a3.symm.trans b3, a4.symm.trans b4⟩
 ·rintro ⟨rfl, rfl, rfl, rfl⟩
  rfl
theorem handleApart_law (a0 a1 a2 a3 a4 a5 : Int) (a6 : ByteArray) (w : World) (v0 : (Lit.int .u8 a0).wf = true) (v1 : (Lit.int .u8 a1).wf = true) (v2 : (Lit.int .u64 a2).wf = true) (v3 : (Lit.int .u8 a3).wf = true) (v4 : (Lit.int .u8 a4).wf = true) (v5 : (Lit.int .u64 a5).wf = true) (z6 : a6.size ≤ 140737488351232) :
  Calls Tryz.prog 13 #[.int .u8 a0, .int .u8 a1, .int .u64 a2, .int .u8 a3, .int .u8 a4, .int .u64 a5, .string a6] w fun e w' => e = .returned (.bool true) ∧ Below w.heap.size w w' := by
 have r0 : 0 ≤ a0 ∧ a0 ≤ 255 := by
  simp only [Lit.wf, Bool.and_eq_true, decide_eq_true_eq] at v0;exact v0
 have r1 : 0 ≤ a1 ∧ a1 ≤ 255 := by
  simp only [Lit.wf, Bool.and_eq_true, decide_eq_true_eq] at v1;exact v1
 have r2 : 0 ≤ a2 ∧ a2 ≤ 18446744073709551615 := by
  simp only [Lit.wf, Bool.and_eq_true, decide_eq_true_eq] at v2;exact v2
 have r3 : 0 ≤ a3 ∧ a3 ≤ 255 := by
  simp only [Lit.wf, Bool.and_eq_true, decide_eq_true_eq] at v3;exact v3
 have r4 : 0 ≤ a4 ∧ a4 ≤ 255 := by
  simp only [Lit.wf, Bool.and_eq_true, decide_eq_true_eq] at v4;exact v4
 have r5 : 0 ≤ a5 ∧ a5 ≤ 18446744073709551615 := by
  simp only [Lit.wf, Bool.and_eq_true, decide_eq_true_eq] at v5;exact v5
 obtain ⟨sg, hsg⟩ : ∃ m : Int, a0 % 200 = m := ⟨_, rfl⟩
 have w1g : a0.tmod 200 = sg := by rw [Int.tmod_eq_emod_of_nonneg (by omega)]; exact hsg
 have w2g : IntKind.u8.wrap sg = sg := IntWalk.u8_in _ (by omega);have w3g : IntKind.i64.wrap sg = sg := IntWalk.i64_in _ (by omega);have w4g : IntKind.i64.wrap (1 + sg) = 1 + sg := IntWalk.i64_in _ (by omega);have w5g : IntKind.i64.wrap a0 = a0 := IntWalk.i64_in _ (by omega);have w6g : IntKind.i64.wrap (1 + a0) = 1 + a0 := IntWalk.i64_in _ (by omega);obtain ⟨eg, heg⟩ : ∃ m : Int, a1 % 15 = m := ⟨_, rfl⟩
 have x1g : a1.tmod 15 = eg := by rw [Int.tmod_eq_emod_of_nonneg (by omega)]; exact heg
 have x2g : IntKind.u8.wrap eg = eg := IntWalk.u8_in _ (by omega);have x3g : IntKind.i64.wrap eg = eg := IntWalk.i64_in _ (by omega);have x4g : IntKind.i64.wrap (1 + eg) = 1 + eg := IntWalk.i64_in _ (by omega);obtain ⟨sh, hsh⟩ : ∃ m : Int, a3 % 200 = m := ⟨_, rfl⟩
 have w1h : a3.tmod 200 = sh := by rw [Int.tmod_eq_emod_of_nonneg (by omega)]; exact hsh
 have w2h : IntKind.u8.wrap sh = sh := IntWalk.u8_in _ (by omega);have w3h : IntKind.i64.wrap sh = sh := IntWalk.i64_in _ (by omega);have w4h : IntKind.i64.wrap (1 + sh) = 1 + sh := IntWalk.i64_in _ (by omega);have w5h : IntKind.i64.wrap a3 = a3 := IntWalk.i64_in _ (by omega);have w6h : IntKind.i64.wrap (1 + a3) = 1 + a3 := IntWalk.i64_in _ (by omega);obtain ⟨eh, heh⟩ : ∃ m : Int, a4 % 15 = m := ⟨_, rfl⟩
 have x1h : a4.tmod 15 = eh := by rw [Int.tmod_eq_emod_of_nonneg (by omega)]; exact heh
 have x2h : IntKind.u8.wrap eh = eh := IntWalk.u8_in _ (by omega);have x3h : IntKind.i64.wrap eh = eh := IntWalk.i64_in _ (by omega);have x4h : IntKind.i64.wrap (1 + eh) = 1 + eh := IntWalk.i64_in _ (by omega);obtain ⟨mn, hmn⟩ : ∃ m : Int, min (a6.size : Int) 100 = m := ⟨_, rfl⟩
 have m1 : min (a6.size : Int) 100 = mn := hmn;have m2 : (if 100 < (a6.size : Int) then 100 else (a6.size : Int)) = mn := by rw [← hmn]; split <;> omega
 have m3 : 0 ≤ mn := by omega
 have m4 : mn ≤ (a6.size : Int) := by omega
 obtain ⟨ky, m5⟩ : ∃ x, a6.extract 0 mn.toNat = x := ⟨_, rfl⟩
 have hky : ky.size ≤ 100 := by rw [← m5, ByteArray.size_extract]; omega
 have okg : fY (1 + sg) (1 + eg) (1 + a0) = true := vR (by omega);have okh : fY (1 + sh) (1 + eh) (1 + a3) = true := vR (by omega);have HAP := Hd (CL okg okh r2 r5 ky);have szg := (fX okg r2.1 r2.2 ky).1;have szh := (fX okh r5.1 r5.2 ky).1;obtain ⟨S, hS⟩ : ∃ x, cB (1 + sg) (1 + eg) a2 (1 + a0) ky = x := ⟨_, rfl⟩
 obtain ⟨T, hT⟩ : ∃ x, cB (1 + sh) (1 + eh) a5 (1 + a3) ky = x := ⟨_, rfl⟩
 have PG := Hd (fun w => oF _ _ _ _ ky S w okg r2.1 r2.2 (by omega) hS);have PH := Hd (fun w => oF _ _ _ _ ky T w okh r5.1 r5.2 (by omega) hT);rw [hS, hT] at HAP;rw [hS] at szg;rw [hT] at szh;have g29 : (S.size : Int) = 29 := by omega
 have h29 : (T.size : Int) = 29 := by omega
 clear hS hT szg szh okg okh hky hmn z6 v0 v1 v2 v3 v4 v5 r0 r1 r2 r3 r4 r5;go_enter Tryz.func13, Tryz.ntmps13;try simp only [List.append_eq, List.cons_append, List.nil_append]
 go_wp2_with fail;refine (fM _).mono ?_;rintro e w1 ⟨rfl, b1⟩;have B1 := Hd b1;clear b1;go_upto_region 6 with fail
 obtain ⟨x1, hx1⟩ : ∃ xx, w1.alloc (.cells #[.int .i64 (1 + sg), .int .i64 (1 + eg), .int .u64 a2, .int .i64 (1 + a0)] 48) = xx := ⟨_, rfl⟩
 obtain ⟨bg, hbg⟩ : ∃ b, w1.heap.size = b := ⟨_, rfl⟩
 obtain ⟨q1, q2, q3⟩ := bI hx1 hbg;rw [hx1, hbg];have G2 := Hd (And.intro q2 (chain B1.out q3));clear hx1 hbg q1 q2 q3;go_upto_region 7 with fail
 obtain ⟨x2, hx2⟩ : ∃ xx, x1.alloc (.cells #[.int .i64 (1 + sh), .int .i64 (1 + eh), .int .u64 a5, .int .i64 (1 + a3)] 48) = xx := ⟨_, rfl⟩
 obtain ⟨bh, hbh⟩ : ∃ b, x1.heap.size = b := ⟨_, rfl⟩
 obtain ⟨q1, q2, q3⟩ := bI hx2 hbh;rw [hx2, hbh];have mg := cA G2.out.1 q3;have G3 := Hd (And.intro mg (And.intro q2 (chain G2.out.2 q3)));obtain ⟨⟨y0, y1, y2, y3⟩, _⟩ := aH mg;obtain ⟨⟨z0, z1, z2, z3⟩, _⟩ := aH q2;clear hx2 hbh q1 q2 q3 mg;go_wp2_with fail;refine (PG.out _).mono ?_;rintro e w4 ⟨rfl, b4⟩;have mg := cA G3.out.1 b4;have mh := cA G3.out.2.1 b4;have G4 := Hd (And.intro mg (And.intro mh (chain G3.out.2.2 b4)));clear y0 y1 y2 y3 z0 z1 z2 z3;obtain ⟨⟨z0, z1, z2, z3⟩, _⟩ := aH mh;clear b4 mg mh;go_wp2_with fail;refine (PH.out _).mono ?_;rintro e w5 ⟨rfl, b5⟩
 have mg := cA G4.out.1 b5;have mh := cA G4.out.2.1 b5;have FIN := Hd (chain G4.out.2.2 b5);clear z0 z1 z2 z3;obtain ⟨⟨y0, y1, y2, y3⟩, _⟩ := aH mg;obtain ⟨⟨z0, z1, z2, z3⟩, _⟩ := aH mh;clear b5 mg mh;go_upto_region 9 with fail
 by_cases hst : S = T
 ·obtain ⟨i1, i2, i3, i4⟩ := HAP.out.1 hst
  have i1' : sg = sh := by omega
  have i2' : eg = eh := by omega
  have i4' : a0 = a3 := by omega
  subst hst;have bS := sV S;clear HAP i1 i2 i4;subst i1';subst i2';subst i3;subst i4';go_wp2_with fail;go_ret;exact ⟨rfl, FIN.out⟩
 ·have bS : (S.toList == T.toList) = false := by rw [oC]; simpa using hst
  have hne : ¬ ((1 + sg) = (1 + sh) ∧ (1 + eg) = (1 + eh) ∧ a2 = a5 ∧ (1 + a0) = (1 + a3)) := fun h => hst (HAP.out.2 h)
  have HNE := Hd hne;clear HAP hst hne;go_wp2_with fail
  all_goals first
   | (exfalso; have := HNE.out; omega)
   | (go_ret; exact ⟨rfl, FIN.out⟩)
   | (go_ret; exact ⟨by simp [bS], FIN.out⟩)
end Go.Proofs.YthcejfnngkmojaaGreatDoor
