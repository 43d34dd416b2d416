/-
 HandleBackLaw.
-/
import Derived.Test.YthcejfnngkmojaaGreatDoorN21
import Derived.Test.YthcejfnngkmojaaGreatDoorNzHpk
namespace Go.Proofs.YthcejfnngkmojaaGreatDoor
open Go Go.RowKit
set_option maxRecDepth 20000
set_option maxHeartbeats 12800000
set_option linter.unusedVariables false
set_option linter.unusedSimpArgs false
theorem WB (s : ByteArray) (i : Nat) (hi : i < s.size) (b : UInt8) (hb : b ≠ s.data.toList[i]'(by simpa using hi)) : ¬ (Str (s.data.toList.set i b) = s) := by
 intro e;have h1 : s.data.toList.set i b = s.data.toList := by conv => rhs; rw [← e, aP]
 have h2 : (s.data.toList.set i b)[i]? = (s.data.toList)[i]? := by rw [h1]
 rw [List.getElem?_set_self (by simpa using hi), List.getElem?_eq_getElem (by simpa using hi)] at h2;injection h2 with h2;exact hb h2
theorem VJ (x m : UInt8) (hm : 1 ≤ m.toNat) : x + m ≠ x ∧ IntKind.u8.wrap ((x.toNat : Int) + (m.toNat : Int)) = (((x + m).toNat : Nat) : Int) ∧ ((x.toNat : Int) + (m.toNat : Int)) % 256 = (((x + m).toNat : Nat) : Int) := by
 have hx := x.toNat_lt;have hm2 := m.toNat_lt;refine ⟨fun h => ?_, ?_, ?_⟩
 ·have := congrArg UInt8.toNat h
  rw [UInt8.toNat_add] at this;simp at this;omega
 ·rw [IntKind.wrap_u8, UInt8.toNat_add]
  simp
 ·rw [UInt8.toNat_add]
  simp
theorem tE (s ep nn k : Int) (ky : ByteArray) (at_ by_ : Int) (w : World) (zk : ky.size ≤ 140737488351232) (hno : (¬ 1 ≤ s) ∨ (1 ≤ s ∧ ¬ s ≤ 200) ∨ ((1 ≤ s ∧ s ≤ 200) ∧ ¬ 1 ≤ ep) ∨ ((1 ≤ s ∧ s ≤ 200) ∧ 1 ≤ ep ∧ ¬ ep ≤ 15) ∨ ((1 ≤ s ∧ s ≤ 200) ∧ (1 ≤ ep ∧ ep ≤ 15) ∧ ¬ 1 ≤ k) ∨ ((1 ≤ s ∧ s ≤ 200) ∧ (1 ≤ ep ∧ ep ≤ 15) ∧ 1 ≤ k ∧ ¬ k ≤ 65535)) :
  Calls Tryz.prog 9 #[.agg #[.int .i64 s, .int .i64 ep, .int .u64 nn, .int .i64 k], .string ky, .int .i64 at_, .int .u8 by_] w fun e w' => e = .returned (.bool true) ∧ Below w.heap.size w w' := by
 have hok : fY s ep k = false := by
  cases h : fY s ep k with
  | false => rfl
  | true => have := vS h; omega
 obtain ⟨mn, hmn⟩ : ∃ m : Int, min (ky.size : Int) 100 = m := ⟨_, rfl⟩
 have m1 : min (ky.size : Int) 100 = mn := hmn;have m2 : (if 100 < (ky.size : Int) then 100 else (ky.size : Int)) = mn := by rw [← hmn]; split <;> omega
 have m3 : 0 ≤ mn := by omega
 have m4 : mn ≤ (ky.size : Int) := by omega
 obtain ⟨kt, m5⟩ : ∃ x, ky.extract 0 mn.toNat = x := ⟨_, rfl⟩
 have PG := Hd (fun w => YT s ep nn k kt w hok);obtain ⟨x1, hx1⟩ : ∃ xx, w.alloc (.cells #[.int .i64 s, .int .i64 ep, .int .u64 nn, .int .i64 k] 48) = xx := ⟨_, rfl⟩
 obtain ⟨q1, q2, q3⟩ := bI hx1 rfl;have X1 := Hd hx1;have Q2 := Hd (And.intro q2 q3);clear hx1 q1 q2 q3 hok hmn zk
 rcases hno with h1 | ⟨h1, h2⟩ | ⟨⟨h1, h2⟩, h3⟩ | ⟨⟨h1, h2⟩, h3, h4⟩ | ⟨⟨h1, h2⟩, ⟨h3, h4⟩, h5⟩ | ⟨⟨h1, h2⟩, ⟨h3, h4⟩, h5, h6⟩
 all_goals
  try have d6 : decide (k ≤ 65535) = false := decide_eq_false (by assumption)
  go_enter Tryz.func9, Tryz.ntmps9;try simp only [List.append_eq, List.cons_append, List.nil_append]
  go_upto_region 1 with fail
  rw [X1.out];go_wp2_with fail;refine (fM _).mono ?_;rintro e w1 ⟨rfl, b1⟩;have mh := cA Q2.out.1 b1;have B1 := Hd (chain Q2.out.2 b1);obtain ⟨⟨y0, y1, y2, y3⟩, _⟩ := aH mh;have MH := Hd mh;clear b1 mh;go_wp2_with fail;refine (PG.out _).mono ?_;rintro e w2 ⟨rfl, b2⟩;have mh := cA MH.out b2;have FIN := Hd (chain B1.out b2);clear y0 y1 y2 y3;obtain ⟨⟨y0, y1, y2, y3⟩, _⟩ := aH mh;clear b2 mh;go_wp2_with fail;go_ret;exact ⟨rfl, FIN.out⟩
theorem sJ (s ep nn k : Int) (ky : ByteArray) (at_ by_ : Int) (w : World) (zk : ky.size ≤ 140737488351232) (h1 : 1 ≤ s) (h2 : s ≤ 200) (h3 : 1 ≤ ep) (h4 : ep ≤ 15) (h5 : 1 ≤ k) (h6 : k ≤ 65535) (n0 : 0 ≤ nn) (n1 : nn ≤ 18446744073709551615) (a0 : -9223372036854775808 ≤ at_) (a1 : at_ ≤ 9223372036854775807) (u0 : 0 ≤ by_) (u1 : by_ ≤ 255) :
  Calls Tryz.prog 9 #[.agg #[.int .i64 s, .int .i64 ep, .int .u64 nn, .int .i64 k], .string ky, .int .i64 at_, .int .u8 by_] w fun e w' => e = .returned (.bool true) ∧ Below w.heap.size w w' := by
 have hok : fY s ep k = true := vR (by omega);obtain ⟨mn, hmn⟩ : ∃ m : Int, min (ky.size : Int) 100 = m := ⟨_, rfl⟩
 have m1 : min (ky.size : Int) 100 = mn := hmn;have m2 : (if 100 < (ky.size : Int) then 100 else (ky.size : Int)) = mn := by rw [← hmn]; split <;> omega
 have m3 : 0 ≤ mn := by omega
 have m4 : mn ≤ (ky.size : Int) := by omega
 obtain ⟨kt, m5⟩ : ∃ x, ky.extract 0 mn.toNat = x := ⟨_, rfl⟩
 have hkt : kt.size ≤ 100 := by rw [← m5, ByteArray.size_extract]; omega
 obtain ⟨z1, z2, z3, z4, z5, z6, z7⟩ := fX hok n0 n1 kt;obtain ⟨S, hS⟩ : ∃ x, cB s ep nn k kt = x := ⟨_, rfl⟩
 have PG := Hd (fun w => oF s ep nn k kt S w hok n0 n1 (by omega) hS);rw [hS] at z1 z2 z3 z4 z5 z6 z7;obtain ⟨tg, htg⟩ : ∃ x, nG kt (hB s ep nn k) = x := ⟨_, rfl⟩
 have ht16 := lK kt (hB s ep nn k);rw [htg] at z7 ht16;have TK := Hd (fun w => by have := uK S w z2; rw [z3, z4, z5, z6, z7] at this; exact this);obtain ⟨i, hpk⟩ := RR at_ 16 (by decide);have PKK := Hd (fun w => LG at_ i w hpk a0 a1);have hi16 := hpk.1
 obtain ⟨m8, hm8, hmx⟩ : ∃ m8 : UInt8, 1 ≤ m8.toNat ∧ (m8.toNat : Int) = max by_ 1 := by
  refine ⟨UInt8.ofNat (max by_ 1).toNat, ?_, ?_⟩
  ·rw [UInt8.toNat_ofNat']; omega
  ·rw [UInt8.toNat_ofNat']; omega
 obtain ⟨mx, hmx2⟩ : ∃ x : Int, max by_ 1 = x := ⟨_, rfl⟩
 have x1' : max by_ 1 = mx := hmx2;have x2' : (if by_ < 1 then 1 else by_) = mx := by rw [← hmx2]; split <;> omega
 have x3' : (if 1 < by_ then by_ else 1) = mx := by rw [← hmx2]; split <;> omega
 have x4' : (if by_ ≤ 1 then 1 else by_) = mx := by rw [← hmx2]; split <;> omega
 have hi : i < tg.data.toList.length := by simp; omega
 obtain ⟨xb, hxb⟩ : ∃ x, tg.data.toList[i] = x := ⟨_, rfl⟩
 obtain ⟨v1, v2, v3⟩ := VJ xb m8 hm8;rw [hmx, hmx2] at v2 v3;have NE := Hd (WB tg i (by omega) (xb + m8) (by rw [hxb]; exact v1));obtain ⟨tb, htb⟩ : ∃ x, Str (tg.data.toList.set i (xb + m8)) = x := ⟨_, rfl⟩
 rw [htb] at NE;have hts : tb.size = 16 := by rw [← htb, bO, List.length_set]; simpa using ht16
 obtain ⟨ts, hss⟩ : ∃ x, tg.extract 0 15 = x := ⟨_, rfl⟩
 have hs15 : ts.size = 15 := by rw [← hss, ByteArray.size_extract]; omega
 have CK1 := Hd (fun w => kC s ep nn k tg kt true w hok n0 n1 (by omega) (by omega) (by rw [htg]; exact decide_eq_true rfl));have CK2 := Hd (fun w => kC s ep nn k tb kt false w hok n0 n1 (by omega) (by omega) (by rw [htg]; exact decide_eq_false NE.out));have CK3 := Hd (fun w => kC s ep nn k ts kt false w hok n0 n1 (by omega) (by omega) (by rw [htg]; exact decide_eq_false (fun e => by have := congrArg ByteArray.size e; omega)));have e16 : (tg.size : Int) = 16 := by omega
 have hii : (i : Int) < 16 := by omega
 have HL := Hd (And.intro hi (And.intro hxb htb));have HB := Hd (fun w => Buf.openedS w tg);obtain ⟨x1, hx1⟩ : ∃ xx, w.alloc (.cells #[.int .i64 s, .int .i64 ep, .int .u64 nn, .int .i64 k] 48) = xx := ⟨_, rfl⟩
 obtain ⟨q1, q2, q3⟩ := bI hx1 rfl;have X1 := Hd hx1;have Q2 := Hd (And.intro q2 q3);have HX3 := Hd v3;clear hx1 q1 q2 q3 hok hmn zk hkt z1 z2 z3 z4 z5 z6 z7 hS htg ht16 hpk hm8 hmx hmx2 v1 hts hs15 n0 n1 a0 a1 u0 u1 hi16 hxb htb v3;go_enter Tryz.func9, Tryz.ntmps9;try simp only [List.append_eq, List.cons_append, List.nil_append]
 go_upto_region 1 with fail
 rw [X1.out];go_wp2_with fail;refine (fM _).mono ?_;rintro e w1 ⟨rfl, b1⟩;have mh := cA Q2.out.1 b1;have B1 := Hd (chain Q2.out.2 b1);obtain ⟨⟨y0, y1, y2, y3⟩, _⟩ := aH mh;have MH := Hd mh;clear b1 mh;go_wp2_with fail;refine (PG.out _).mono ?_;rintro e w2 ⟨rfl, b2⟩;have mh := cA MH.out b2;have B2 := Hd (chain B1.out b2);have MH2 := Hd mh;clear y0 y1 y2 y3;obtain ⟨⟨y0, y1, y2, y3⟩, _⟩ := aH mh;clear b2 mh;go_wp2_with fail;refine (TK.out _).mono ?_;rintro e w3 ⟨rfl, b3⟩
 obtain ⟨x2, hx2⟩ : ∃ xx, w3.alloc (.cells #[.int .i64 s, .int .i64 ep, .int .u64 nn, .int .i64 k] 48) = xx := ⟨_, rfl⟩
 obtain ⟨bx, hbx⟩ : ∃ b, w3.heap.size = b := ⟨_, rfl⟩
 obtain ⟨q1, q2, q3⟩ := bI hx2 hbx;have mh := cA (cA MH2.out b3) q3;have B3 := Hd (chain (chain B2.out b3) q3);have MH3 := Hd mh;have X2 := Hd (And.intro hx2 hbx);clear y0 y1 y2 y3;obtain ⟨⟨y0, y1, y2, y3⟩, _⟩ := aH mh;obtain ⟨⟨c0, c1, c2, c3⟩, _⟩ := aH q2;clear b3 mh hx2 hbx q1 q2 q3;go_upto_region 10 with fail
 rw [X2.out.1, X2.out.2];obtain ⟨cap, w4, g, hcv, hbuf, b4, hgw⟩ := HB.out x2;have HBF := Hd (And.intro hbuf hgw);have B4 := Hd b4;clear hbuf hgw b4;go_upto_region 13 with fail
 clear hcv y0 y1 y2 y3 c0 c1 c2 c3;go_wp2_with fail;refine (PKK.out _).mono ?_;rintro e w9 ⟨rfl, rfl⟩;have hc := HBF.out.1.cell i HL.out.1;rw [HL.out.2.1] at hc;have hf := HBF.out.1.free i HL.out.1;have v3 := HX3.out;obtain ⟨wz, hwz⟩ : ∃ wz, (w4.setCell ⟨g, i, none⟩ (.int .u8 (((xb + m8).toNat : Nat) : Int))).drew = wz := ⟨_, rfl⟩
 have hb2 := (HBF.out.1.set i HL.out.1 (xb + m8)).drew;rw [hwz] at hb2
 have HCV : Hid (∀ w', Below wz.heap.size wz w' → (convert 31 9 (.slice (some ⟨g, 0, none⟩) tg.size cap)).run Tryz.prog w' = .ok (.string tb) w') := Hd fun w' hb => by
  have := (hb2.below hb).conv cap;rw [List.length_set, HL.out.2.2, show tg.data.toList.length = tg.size by simp] at this;exact this
 have BZ : Hid (Below w.heap.size w wz) := Hd (by
  rw [← hwz];exact ((chain B3.out B4.out).setCell (Nat.le_trans B3.out.size HBF.out.2) _).drew)
 have HC : Hid (∀ w', Below wz.heap.size wz w' → w'.heap[w.heap.size]? = some (.cells #[.int .i64 s, .int .i64 ep, .int .u64 nn, .int .i64 k] 48)) := Hd fun w' hb => by
  have h4 := cA MH3.out B4.out;have hlt := (Array.getElem?_eq_some_iff.1 MH3.out).1;have hne : w.heap.size ≠ g := by have := HBF.out.2; omega
  have hz : wz.heap[w.heap.size]? = some (.cells #[.int .i64 s, .int .i64 ep, .int .u64 nn, .int .i64 k] 48) := by
   rw [← hwz];exact (Below.heap_setCell _ _ _ _ hne).trans h4
  exact cA hz hb
 have S0 := Hd (Below.refl wz.heap.size wz);have HWZ := Hd hwz;obtain ⟨y, hy⟩ : ∃ y : Int, (((xb + m8).toNat : Nat) : Int) = y := ⟨_, rfl⟩
 rw [hy] at HWZ v2 v3;clear hb2 hwz hy;go_upto_region 15 with fail
 clear hc hf;have hwz := HWZ.out;refine wp_region_held_drew (S := fun w' => Below wz.heap.size wz w') (by kernel_rfl) (by rw [hwz]; exact S0.out) (fun hS => ?_);rw [hwz] at hS ⊢;clear hwz;refine Hu 0 107 hS ?_;simp only [SL];refine Hu 1 108 hS ?_;simp only [SL];refine Hv 2 109 ?va2x3 hS ?ha2x3 ?_
 case ha2x3 =>
  intro w9 s9;have k9 := HC.out _ s9;obtain ⟨⟨q0, q1, q2, q3⟩, _⟩ := aH k9;clear s9;go_simp;try (with_reducible rfl)
 simp only [SL];refine Hu 3 110 hS ?_;simp only [SL];refine Hu 4 111 hS ?_;simp only [SL];refine Hs 5 (fun K HK => ?_);go_simp;go_wp2_with fail;refine (CK1.out _).mono ?_;rintro e w6 ⟨rfl, b6⟩;refine HK.out _ _ ?_ ?_
 ·exact chain hS b6
 clear HK K;try simp only [Act.put, SL]
 have hS9 := chain hS b6;clear hS b6;have hS := hS9;clear hS9;refine Hu 6 113 hS ?_;simp only [SL];refine Hu 7 114 hS ?_;simp only [SL];refine Hv 8 115 ?va8x8 hS ?ha8x8 ?_
 case ha8x8 =>
  intro w9 s9;have k9 := HC.out _ s9;obtain ⟨⟨q0, q1, q2, q3⟩, _⟩ := aH k9;clear s9;go_simp;try (with_reducible rfl)
 simp only [SL];refine Hu 9 116 hS ?_;simp only [SL];refine Hv 10 117 ?va10x10 hS ?ha10x10 ?_
 case ha10x10 =>
  intro w9 s9;have k9 := HCV.out _ s9;clear s9;go_simp;try (with_reducible rfl)
 simp only [SL];refine Hu 11 118 hS ?_;simp only [SL];refine Hs 12 (fun K HK => ?_);go_simp;go_wp2_with fail;refine (CK2.out _).mono ?_;rintro e w6 ⟨rfl, b6⟩;refine HK.out _ _ ?_ ?_
 ·exact chain hS b6
 clear HK K;try simp only [Act.put, SL]
 have hS9 := chain hS b6;clear hS b6;have hS := hS9;clear hS9;refine Hu 13 120 hS ?_;simp only [SL];refine Hu 14 121 hS ?_;simp only [SL];refine Hu 15 122 hS ?_;simp only [SL];refine Hv 16 123 ?va16x15 hS ?ha16x15 ?_
 case ha16x15 =>
  intro w9 s9;have k9 := HC.out _ s9;obtain ⟨⟨q0, q1, q2, q3⟩, _⟩ := aH k9;clear s9;go_simp;try (with_reducible rfl)
 simp only [SL];refine Hu 17 124 hS ?_;simp only [SL];refine Hu 18 125 hS ?_;simp only [SL];refine Hu 19 126 hS ?_;simp only [SL];refine Hs 20 (fun K HK => ?_);go_simp;go_wp2_with fail;refine (CK3.out _).mono ?_;rintro e w6 ⟨rfl, b6⟩;refine HK.out _ _ ?_ ?_
 ·exact chain hS b6
 clear HK K;try simp only [Act.put, SL]
 have hS9 := chain hS b6;clear hS b6;have hS := hS9;clear hS9;refine Hu 21 128 hS ?_;simp only [SL];refine Hu 22 129 hS ?_;simp only [SL];refine Hu 23 8 hS ?_;simp only [SL];refine wpAnyH_done (by kernel_rfl) ?_ _;have FIN := Hd (chain BZ.out hS);clear hS;go_wp2_with fail;go_ret;exact ⟨rfl, FIN.out⟩
theorem handleBack_law (s ep nn k : Int) (ky : ByteArray) (at_ by_ : Int) (w : World) (v0 : (Lit.int .i64 s).wf = true) (v1 : (Lit.int .i64 ep).wf = true) (v2 : (Lit.int .u64 nn).wf = true) (v3 : (Lit.int .i64 k).wf = true) (zk : ky.size ≤ 140737488351232) (va : (Lit.int .i64 at_).wf = true) (vb : (Lit.int .u8 by_).wf = true) :
  Calls Tryz.prog 9 #[.agg #[.int .i64 s, .int .i64 ep, .int .u64 nn, .int .i64 k], .string ky, .int .i64 at_, .int .u8 by_] w fun e w' => e = .returned (.bool true) ∧ Below w.heap.size w w' := by
 obtain ⟨r1, r2⟩ := zR at_ va
 have u2 : 0 ≤ nn ∧ nn ≤ 18446744073709551615 := by
  simp only [Lit.wf, Bool.and_eq_true, decide_eq_true_eq] at v2;exact v2
 have ub : 0 ≤ by_ ∧ by_ ≤ 255 := by
  simp only [Lit.wf, Bool.and_eq_true, decide_eq_true_eq] at vb;exact vb
 by_cases h : ((1 ≤ s ∧ s ≤ 200) ∧ (1 ≤ ep ∧ ep ≤ 15) ∧ 1 ≤ k ∧ k ≤ 65535)
 ·exact sJ s ep nn k ky at_ by_ w zk h.1.1 h.1.2 h.2.1.1 h.2.1.2 h.2.2.1 h.2.2.2 u2.1 u2.2 r1 r2 ub.1 ub.2
 ·exact tE s ep nn k ky at_ by_ w zk (by omega)
end Go.Proofs.YthcejfnngkmojaaGreatDoor
