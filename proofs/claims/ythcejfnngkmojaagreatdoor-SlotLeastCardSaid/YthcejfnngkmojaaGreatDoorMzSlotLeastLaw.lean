/-
 SlotLeastLaw.
-/
import Derived.Test.YthcejfnngkmojaaGreatDoorMzLe
import Derived.Test.YthcejfnngkmojaaGreatDoorMzSlV
namespace Go.Proofs.YthcejfnngkmojaaGreatDoor
open Go Go.RowKit
set_option maxRecDepth 20000
set_option maxHeartbeats 12800000
set_option linter.unusedVariables false
set_option linter.unusedSimpArgs false
theorem slotLeast_law (a : Option Addr) (len cap : Nat) (zs : List Int) (w : World) (hk : IsInts .u8 w a len cap zs) :
  Calls Tryz.prog 7 #[.slice a len cap] w fun e w' => e = .returned (.bool true) ∧ Below w.heap.size w w' := by
 have CELLS := Hd (u8_cellA hk);have hlenL := u8_len hk;clear hk;go_enter Tryz.func7, Tryz.ntmps7;try simp only [List.append_eq, List.cons_append, List.nil_append]
 go_wp2_with fail;refine (examples_yes17 _).mono ?_;rintro e w1 ⟨rfl, b1⟩;have B1 := Hd b1;clear b1;go_wp2_with fail;refine (made17_is _).mono ?_;rintro e w2 ⟨t, d, s, rfl, h1⟩;have sn := ptr_nilT ⟨t, 0, none⟩;obtain ⟨g, hg⟩ : ∃ b, w2.heap.size = b := ⟨_, rfl⟩
 obtain ⟨x0, hx0⟩ : ∃ x, w2.alloc (.cells (VI (List.replicate 60 0)) 45) = x := ⟨_, rfl⟩
 obtain ⟨c1, c2, c3, c4, c5, c6, c7⟩ := h1.box (.cells (VI (List.replicate 60 0)) 45);rw [hx0] at c1 c2 c3 c5;rw [hg] at c1 c3 c4 c5 c6 c7;have X0 := Hd (And.intro hx0 hg);have HT0 := Hd c1;have AR0 : Hid (ArI 45 x0 g (liveV [])) := Hd (by rw [liveV_nil]; exact c3);have HG := Hd (And.intro c4 c6);clear h1 hx0 hg c1 c2 c3 c4 c5 c6 c7;go_upto_region 8 with fail
 rw [show (#[Value.int .i64 0, Value.int .i64 0, Value.int .i64 0, Value.int .i64 0, Value.int .i64 0, Value.int .i64 0, Value.int .i64 0, Value.int .i64 0, Value.int .i64 0, Value.int .i64 0, Value.int .i64 0, Value.int .i64 0, Value.int .i64 0, Value.int .i64 0, Value.int .i64 0, Value.int .i64 0, Value.int .i64 0, Value.int .i64 0, Value.int .i64 0, Value.int .i64 0, Value.int .i64 0, Value.int .i64 0, Value.int .i64 0, Value.int .i64 0, Value.int .i64 0, Value.int .i64 0, Value.int .i64 0, Value.int .i64 0, Value.int .i64 0, Value.int .i64 0, Value.int .i64 0, Value.int .i64 0, Value.int .i64 0, Value.int .i64 0, Value.int .i64 0, Value.int .i64 0, Value.int .i64 0, Value.int .i64 0, Value.int .i64 0, Value.int .i64 0, Value.int .i64 0, Value.int .i64 0, Value.int .i64 0, Value.int .i64 0, Value.int .i64 0, Value.int .i64 0, Value.int .i64 0, Value.int .i64 0, Value.int .i64 0, Value.int .i64 0, Value.int .i64 0, Value.int .i64 0, Value.int .i64 0, Value.int .i64 0, Value.int .i64 0, Value.int .i64 0, Value.int .i64 0, Value.int .i64 0, Value.int .i64 0, Value.int .i64 0] : Array Value) = VI (List.replicate 60 0) from rfl, X0.out.1, X0.out.2]
 go_wp2_with fail
 go_loopw [6] (fun i wr => ∃ (j : Nat) (L : List (Int × Int × Int)), i = .int .i64 (j : Int) ∧ j ≤ len ∧ j ≤ 40 ∧ Hid (TxS w1 [g] wr t d s 640 (slE 0 L)) ∧ Hid (LeI L j) ∧ Hid (ArI 45 wr g (liveV L))) (fun i _ => 41 - (intOf i).toNat)
 case atStart => exact ⟨0, [], rfl, Nat.zero_le _, Nat.zero_le _, HT0, Hd LeI.nil, AR0⟩
 case round =>
  obtain ⟨j, L, rfl, hj1, hj2, HT, HI, AR⟩ := hrel
  by_cases hjl : j < len
  ·have hjli : (j : Int) < (len : Int) := by omega
   by_cases hlt : j < 40
   ·have hli : (j : Int) < 40 := by omega
    obtain ⟨x, z, hax, _, ⟨hz1, hz2⟩, CELL⟩ := CELLS.out j hjl;subst hax;have HJ : Hid (j + 1 ≤ len ∧ j + 1 ≤ 40) := Hd ⟨by omega, by omega⟩;have e4 : IntKind.i64.wrap ((j : Int) + 1) = ((j + 1 : Nat) : Int) := by rw [show (j : Int) + 1 = ((j + 1 : Nat) : Int) by omega]; exact IntWalk.i64_in _ (by omega)
    have hcl := CELL.out wr (chain B1.out HT.out.from);obtain ⟨m, hm⟩ : ∃ m : Nat, (z % 9).toNat = m := ⟨_, rfl⟩
    have z1 : z % 9 = (m : Int) := by omega
    have z2 : z.tmod 9 = (m : Int) := by rw [Int.tmod_eq_emod_of_nonneg hz1]; exact z1
    have z3 : IntKind.u8.wrap (m : Int) = (m : Int) := IntWalk.u8_in _ (by omega);have z4 : IntKind.i64.wrap (m : Int) = (m : Int) := IntWalk.i64_in _ (by omega);obtain ⟨ca, hca⟩ : ∃ ca : Int, (m : Int) + 1 = ca := ⟨_, rfl⟩
    have z5 : IntKind.i64.wrap (1 + (m : Int)) = ca := by rw [show 1 + (m : Int) = ca by omega]; exact IntWalk.i64_in _ (by omega)
    have HCR : Hid (1 ≤ ca ∧ ca ≤ 9) := Hd (by omega);have HCA := Hd hca;clear hj1 hj2 hjl hlt hm hca
    rcases Int.lt_or_le z 128 with hz | hz
    ·have e8 : ¬ (128 : Int) ≤ z := by omega
     have e5 : IntKind.u64.wrap (j : Int) = (j : Int) := IntWalk.u64_in _ (by omega);have TK := Hd (take_le HT.out HI.out (by have := HJ.out; omega) HCR.out);have HAF := Hd (capAt_first L);have HAH : Hid (∀ k, k < firstO L → ∃ x, (takeL ca (j : Int) L)[k]? = some x ∧ capAt L (k + 1) = x.1 ∧ (x.1 = 0 → 15 < x.2.1)) := Hd fun k hk => take_ahead hk
     have HLT := Hd (liveV_take ca (j : Int) L);have HFL : Hid (firstO L ≤ 40) := Hd (by have := firstO_le L; have := HI.out.len; have := HJ.out; omega);have HLV : Hid (∀ k, k < 60 → (liveV L)[k]? = some (capAt L k)) := Hd fun k hk => liveV_at L hk
     obtain ⟨ep, hep⟩ : ∃ ep, epO L = ep := ⟨_, rfl⟩
     obtain ⟨q, hq⟩ : ∃ q, firstO L = q := ⟨_, rfl⟩
     obtain ⟨L', hL'⟩ : ∃ L', takeL ca (j : Int) L = L' := ⟨_, rfl⟩
     rw [hep, hq, hL'] at TK;rw [hq] at HAF HFL;rw [hq, hL'] at HAH HLT;have HX := Hd hz;clear hz hep hq hL';obtain ⟨p, hp⟩ : ∃ p : Int, (q : Int) + 1 = p := ⟨_, rfl⟩
     rw [hp] at TK;have HP := Hd hp;clear hp;go_wp2_with fail;refine TK.out.mono ?_;rintro e w3 ⟨rfl, h1, h2, hI⟩;obtain ⟨bx, hbx⟩ : ∃ b, w3.heap.size = b := ⟨_, rfl⟩
     obtain ⟨x1, hx1⟩ : ∃ x, w3.alloc (.cells #[.int .i64 p, .int .i64 ca, .int .i64 ep, .int .u64 (j : Int)] 37) = x := ⟨_, rfl⟩
     obtain ⟨c1, c2, c3, c4, c5, c6, c7⟩ := h1.box (.cells #[.int .i64 p, .int .i64 ca, .int .i64 ep, .int .u64 (j : Int)] 37);rw [hx1] at c1 c2 c3 c5;rw [hbx] at c1 c3 c4 c5 c6 c7;have Xx1 := Hd (And.intro hx1 hbx);clear hx1 hbx;have AR3 := Hd (AR.out.kept ((c2 g (by simp) HG.out.1).trans (h2 g (by simp) HG.out.1)));have HI2 := Hd hI;have HT3 := Hd c1;have HBX := Hd (And.intro c4 (And.intro c6 c3));have HGB : Hid (g ≠ bx) := Hd (c7 g (by simp));obtain ⟨⟨y0, y1, y2, y3⟩, _⟩ := cellsS c3;have hcp := AR3.out.cell (HLV.out (q + 1) (by have := HFL.out; omega));rw [HAF.out] at hcp
     have hpr : (1 : Int) ≤ p ∧ p < 60 ∧ p = ((q + 1 : Nat) : Int) := by have := HP.out; have := HFL.out; omega
     have p1 : ¬ p < 1 := by omega
     have p2 : ¬ (60 : Int) ≤ p := by omega
     have p3 : p.toNat = q + 1 := by omega
     have p4 : 0 ≤ p := by omega
     have p5 : p < 60 := by omega
     clear h1 h2 hI c1 c2 c3 c4 c5 c6 c7 TK hpr;go_upto_region 22 with fail
     rw [Xx1.out.1, Xx1.out.2];go_wp2_with fail
     go_loopw [13] (fun k wr => ∃ n : Nat, k = .int .i64 ((n : Int) + 1) ∧ n ≤ q ∧ Hid (TxS w1 [bx, g] wr t d s 640 (slE 0 L')) ∧ Hid (ArI 45 wr g (liveV L)) ∧ Hid (wr.heap[bx]? = some (.cells #[.int .i64 p, .int .i64 ca, .int .i64 ep, .int .u64 (j : Int)] 37))) (fun k _ => 60 - (intOf k).toNat)
     case atStart => exact ⟨0, rfl, Nat.zero_le _, HT3, AR3, Hd HBX.out.2.2⟩
     case round =>
      obtain ⟨n, rfl, hn, HTn, ARn, BXn⟩ := hrel;clear y0 y1 y2 y3 hcp;obtain ⟨⟨y0, y1, y2, y3⟩, _⟩ := cellsS BXn.out
      by_cases hnq : n < q
      ·have hln : (n : Int) + 1 < p := by have := HP.out; omega
       have hq60 := HFL.out;have e4n : IntKind.i64.wrap ((n : Int) + 1 + 1) = ((n + 1 : Nat) : Int) + 1 := by rw [show (n : Int) + 1 + 1 = ((n + 1 : Nat) : Int) + 1 by omega]; exact IntWalk.i64_in _ (by omega)
       obtain ⟨y, hx, hxc, hxe⟩ := HAH.out n hnq;have AT := Hd (sat_L HTn.out HI2.out.ok hx);have HXC := Hd (And.intro hxc hxe);have HN := Hd hnq;have n1 : ((n + 1 : Nat) : Int) = (n : Int) + 1 := by omega
       rw [n1] at AT;obtain ⟨n', hn'⟩ : ∃ n' : Int, (n : Int) + 1 = n' := ⟨_, rfl⟩
       have n2 : n'.toNat = n + 1 := by omega
       have n3 : 0 ≤ n' := by omega
       have n4 : n' < 60 := by omega
       rw [hn'] at AT hln e4n ⊢;have HN' := Hd hn';clear hn hnq hx hxc hxe n1 hn' hq60;go_wp2_with fail;refine AT.out.mono ?_;rintro e w4 ⟨rfl, h1, h2⟩;obtain ⟨bz, hbz⟩ : ∃ b, w4.heap.size = b := ⟨_, rfl⟩
       obtain ⟨x2, hx2⟩ : ∃ x, w4.alloc (.cells #[.int .i64 n', .int .i64 y.1, .int .i64 y.2.1, .int .u64 y.2.2] 37) = x := ⟨_, rfl⟩
       obtain ⟨c1, c2, c3, c4, c5, c6, c7⟩ := h1.box (.cells #[.int .i64 n', .int .i64 y.1, .int .i64 y.2.1, .int .u64 y.2.2] 37);rw [hx2] at c1 c2 c3 c5;rw [hbz] at c1 c3 c4 c5 c6 c7;have Xx2 := Hd (And.intro hx2 hbz);clear hx2 hbz;have T4 := Hd (c1.sub (R' := [bx, g]) fun k hk => by simp only [List.mem_cons] at hk ⊢; exact .inr hk);have AR4 := Hd (ARn.out.kept ((c2 g (by simp) HG.out.1).trans (h2 g (by simp) HG.out.1)));have BX4 := Hd (((c2 bx (by simp) HBX.out.1).trans (h2 bx (by simp) HBX.out.1)).trans BXn.out);clear y0 y1 y2 y3;obtain ⟨⟨y0, y1, y2, y3⟩, _⟩ := cellsS BX4.out
       obtain ⟨⟨z0, z1, z2, z3⟩, _⟩ := cellsS c3;have hcn := AR4.out.cell (HLV.out (n + 1) (by have := HFL.out; have := HN.out; omega));rw [HXC.out.1] at hcn;clear h1 h2 c1 c2 c3 c4 c5 c6 c7 AT;go_upto_region 28 with fail
       rw [Xx2.out.1, Xx2.out.2]
       by_cases h0 : y.1 = 0
       ·have h15 := HXC.out.2 h0
        have h15' : ¬ y.2.1 ≤ 15 := by omega
        rw [h0] at hcn;clear h0 h15;go_wp2_with fail;go_roundw
        case rel => exact ⟨n + 1, rfl, HN.out, T4, AR4, BX4⟩
        case measure => have := HN.out; have := HFL.out; have := HN'.out; simp [intOf]; omega
       ·have h0' : (y.1 == 0) = false := by simpa using h0
        clear h0;go_wp2_with fail;go_roundw
        case rel => exact ⟨n + 1, rfl, HN.out, T4, AR4, BX4⟩
        case measure => have := HN.out; have := HFL.out; have := HN'.out; simp [intOf]; omega
      ·have hnq2 : n = q := by omega
       have hln : ¬ (n : Int) + 1 < p := by have := HP.out; omega
       have hfp := ARn.out.free (q + 1)
       have FINn : Hid (TxS w1 [g] (wr.setCell ⟨g, q + 1, none⟩ (.int .i64 ca)) t d s 640 (slE 0 L') ∧ ArI 45 (wr.setCell ⟨g, q + 1, none⟩ (.int .i64 ca)) g (liveV L')) := Hd ⟨(HTn.out.turn (k := g) (by simp) HG.out.1 HG.out.2 (set_frmT _)).sub fun k hk => by simp only [List.mem_cons] at hk ⊢; exact .inr hk, by
        rw [HLT.out];exact ARn.out.set (q + 1) ca⟩
       have hcp := ARn.out.cell (HLV.out (q + 1) (by have := HFL.out; omega));clear hn hnq hnq2;go_wp2_with fail;go_roundw
       case rel => exact ⟨j + 1, L', rfl, HJ.out.1, HJ.out.2, Hd FINn.out.1, HI2, Hd FINn.out.2⟩
       case measure => have := HJ.out; simp [intOf]; omega
    ·have e8 : (128 : Int) ≤ z := by omega
     have FR := Hd (sfree_L ((m : Int) + 1) HT.out HI.out.ok);have HI2 := Hd (HI.out.free ca);rw [HCA.out] at FR;have HX := Hd hz;clear hz;go_wp2_with fail;refine FR.out.mono ?_;rintro e w3 ⟨rfl, h1, h2⟩;have AR3 : Hid (ArI 45 w3 g (mixV ca L 0)) := Hd (by rw [mixV_zero]; exact AR.out.kept (h2 g (by simp) HG.out.1));have HT3 := Hd h1;clear h1 h2 FR;go_wp2_with fail
     go_loopw [10] (fun k wr => ∃ n : Nat, k = .int .i64 (n : Int) ∧ n ≤ 60 ∧ Hid (TxS w1 [g] wr t d s 640 (slE 0 (L.map (goneL ca)))) ∧ Hid (ArI 45 wr g (mixV ca L n))) (fun k _ => 60 - (intOf k).toNat)
     case atStart => exact ⟨0, rfl, Nat.zero_le _, HT3, AR3⟩
     case round =>
      obtain ⟨n, rfl, hn, HTn, ARn⟩ := hrel
      by_cases hn60 : n < 60
      ·have hln : (n : Int) < 60 := by omega
       have e4n : IntKind.i64.wrap ((n : Int) + 1) = ((n + 1 : Nat) : Int) := by rw [show (n : Int) + 1 = ((n + 1 : Nat) : Int) by omega]; exact IntWalk.i64_in _ (by omega)
       have hcn := ARn.out.cell (mixV_at ca L n hn60);rw [if_neg (Nat.lt_irrefl n)] at hcn;have hfn := ARn.out.free n;have HNX := Hd (mixV_next ca L hn60);have HCF := Hd (capAt_free (cap := ca) HCR.out.1 L n);have HN := Hd hn60;obtain ⟨x, hx⟩ : ∃ x, capAt L n = x := ⟨_, rfl⟩
       rw [hx] at hcn HCF
       by_cases hxc : x = ca
       ·subst hxc
        have FINn : Hid (TxS w1 [g] (wr.setCell ⟨g, n, none⟩ (.int .i64 0)) t d s 640 (slE 0 (L.map (goneL x))) ∧ ArI 45 (wr.setCell ⟨g, n, none⟩ (.int .i64 0)) g (mixV x L (n + 1))) := Hd ⟨HTn.out.turn (k := g) (by simp) HG.out.1 HG.out.2 (set_frmT _), by
         rw [HNX.out, HCF.out, if_pos rfl];exact ARn.out.set n 0⟩
        clear hn hx hn60;go_wp2_with fail;go_roundw
        case rel => exact ⟨n + 1, rfl, HN.out, Hd FINn.out.1, Hd FINn.out.2⟩
        case measure => have := HN.out; simp [intOf]; omega
       ·have FINn : Hid (ArI 45 wr g (mixV ca L (n + 1))) := Hd (by
         rw [HNX.out, HCF.out, if_neg hxc, setl_same (by rw [mixV_at ca L n HN.out, if_neg (Nat.lt_irrefl n), hx])];exact ARn.out)
        have hxn : (x == ca) = false := by simpa using hxc
        clear hn hx hn60;go_wp2_with fail;go_roundw
        case rel => exact ⟨n + 1, rfl, HN.out, HTn, FINn⟩
        case measure => have := HN.out; simp [intOf]; omega
      ·have hn2 : n = 60 := by omega
       have hln : ¬ (n : Int) < 60 := by omega
       have FINn : Hid (ArI 45 wr g (liveV (L.map (goneL ca)))) := Hd (by
        have := ARn.out;rw [hn2, mixV_all] at this;exact this)
       clear hn hn60 hn2;go_wp2_with fail;go_roundw
       case rel => exact ⟨j + 1, L.map (goneL ca), rfl, HJ.out.1, HJ.out.2, HTn, HI2, FINn⟩
       case measure => have := HJ.out; simp [intOf]; omega
   ·have hli : ¬ (j : Int) < 40 := by omega
    have FIN := Hd (chain B1.out HT.out.from);clear hj1 hj2 hjl hlt;go_wp2_with fail;go_ret;exact ⟨rfl, FIN.out⟩
  ·have hjli : ¬ (j : Int) < (len : Int) := by omega
   have FIN := Hd (chain B1.out HT.out.from);clear hj1 hj2 hjl;go_wp2_with fail;go_ret;exact ⟨rfl, FIN.out⟩
end Go.Proofs.YthcejfnngkmojaaGreatDoor
