/-
 HandleKeysLaw.
-/
import Derived.Test.YthcejfnngkmojaaGreatDoorN21
import Derived.Test.YthcejfnngkmojaaGreatDoorNzSlV
namespace Go.Proofs.YthcejfnngkmojaaGreatDoor
open Go Go.RowKit
set_option maxRecDepth 20000
set_option maxHeartbeats 12800000
set_option linter.unusedVariables false
set_option linter.unusedSimpArgs false
theorem aCD {z : Int} (h0 : 0 ≤ z) (h1 : z ≤ 255) : ∃ b : UInt8, (b.toNat : Int) = z := by
 refine ⟨UInt8.ofNat z.toNat, ?_⟩;rw [UInt8.toNat_ofNat'];omega
theorem handleKeys_law (a : Option Addr) (len cap : Nat) (zs : List Int) (a1 : ByteArray) (w : World) (hk : IsInts .u8 w a len cap zs) (z1 : a1.size ≤ 140737488351232) :
  Calls Tryz.prog 14 #[.slice a len cap, .string a1] w fun e w' => e = .returned (.bool true) ∧ Below w.heap.size w w' := by
 have CELLS := Hd (OO hk);have hlenL := aAP hk;obtain ⟨mn, hmn⟩ : ∃ m : Int, min (a1.size : Int) 31 = m := ⟨_, rfl⟩
 have m1 : min (a1.size : Int) 31 = mn := hmn;have m2 : (if 31 < (a1.size : Int) then 31 else (a1.size : Int)) = mn := by rw [← hmn]; split <;> omega
 have m3 : 0 ≤ mn := by omega
 have m4 : mn ≤ (a1.size : Int) := by omega
 obtain ⟨ot, m5⟩ : ∃ x, a1.extract 0 mn.toNat = x := ⟨_, rfl⟩
 have HOT : Hid (ot.size ≠ 32) := Hd (by rw [← m5, ByteArray.size_extract]; omega);clear hk hmn z1;go_enter Tryz.func14, Tryz.ntmps14;try simp only [List.append_eq, List.cons_append, List.nil_append]
 go_wp2_with fail;refine (fM _).mono ?_;rintro e w1 ⟨rfl, b1⟩;have B1 := Hd b1;clear b1;go_wp2_with fail;refine (uD _).mono ?_;rintro e w2 ⟨t, d, s, rfl, h1⟩;have sn := zA ⟨t, 0, none⟩;have HT0 : Hid (TxS w1 [] w2 t d s 640 (slE 0 [] ++ eM 0 ⟨#[]⟩ ⟨#[]⟩)) := Hd (by rw [yI]; exact h1);clear h1;go_wp2_with fail
 go_loopw [7, 8, 9] (fun x y i wr => ∃ (j : Nat) (ka kb : ByteArray), x = .string ka ∧ y = .string kb ∧ i = .int .i64 (j : Int) ∧ j ≤ len ∧ j ≤ 10 ∧ Hid (TxS w1 [] wr t d s 640 (slE 0 [] ++ eM j ka kb)) ∧ Hid (ka.size ≤ 40 ∧ (j = 0 → ka = ⟨#[]⟩ ∧ kb = ⟨#[]⟩))) (fun _ _ i _ => 11 - (intOf i).toNat)
 case atStart => exact ⟨0, _, _, rfl, rfl, rfl, Nat.zero_le _, Nat.zero_le _, HT0, Hd ⟨by decide, fun _ => ⟨rfl, rfl⟩⟩⟩
 case round =>
  obtain ⟨j, ka, kb, rfl, rfl, rfl, hj1, hj2, HT, HK⟩ := hrel
  by_cases hjl : j < len
  ·have hjli : (j : Int) < (len : Int) := by omega
   by_cases hlt : j < 10
   ·have hli : (j : Int) < 10 := by omega
    obtain ⟨x, z, hax, _, ⟨hz1, hz2⟩, CELL⟩ := CELLS.out j hjl;subst hax;obtain ⟨b, hb⟩ := aCD hz1 hz2;have HJ : Hid (j + 1 ≤ len ∧ j + 1 ≤ 10) := Hd ⟨by omega, by omega⟩;have e4 : IntKind.i64.wrap ((j : Int) + 1) = (j : Int) + 1 := IntWalk.i64_in _ (by omega);have n1 : (((j + 1 : Nat)) : Int) = (j : Int) + 1 := by omega
    have KK := Hd (fun w => ID b z hb w);have hks := uH b;obtain ⟨K, hK⟩ : ∃ K, MC b = K := ⟨_, rfl⟩
    rw [hK] at KK hks;have HKS := Hd hks;have HN := Hd n1;have hcl := CELL.out wr (chain B1.out HT.out.from);have k1 := sV K;have k2 := sV ka;clear hj1 hj2 hjl hlt hb hK hks n1 hz1 hz2;go_wp2_with fail;refine (KK.out _).mono ?_;rintro e w3 ⟨rfl, b3⟩;have T3 := Hd (HT.out.below b3);have RO := Hd (sH (n := j) (L := []) (a := ka) (b := kb) (c := K) T3.out (by decide) (by have := HJ.out; omega) HK.out.2 HK.out.1 HKS.out);clear b3 hcl;go_wp2_with fail;refine RO.out.mono ?_;rintro e w4 ⟨rfl, h1, _⟩;have hcl := CELL.out w4 (chain B1.out h1.from);have T4 := Hd h1;clear h1 RO T3
    go_wp2_with fail;refine (KK.out _).mono ?_;rintro e w5 ⟨rfl, b5⟩;have RB := Hd (zT (c := ot) (T4.out.below b5) HOT.out);clear b5 hcl;go_wp2_with fail;refine RB.out.mono ?_;rintro e w6 ⟨rfl, h1, _⟩;have KY := TQ (v := ((j + 1 : Nat) : Int)) (a := K) (b := ka) h1 (Nat.le_trans (vH oV (j + 1) K ka) (by decide)) (qH (L := []) (by decide) (by have := HJ.out; omega) (fun h => by omega));rw [HN.out] at KY;have KY := Hd KY;clear h1 RB;go_wp2_with fail;refine KY.out.mono ?_;rintro e w7 ⟨rfl, h1, _⟩;have T7 := Hd h1;clear h1 KY;go_wp2_with fail;go_roundw
    case rel => exact ⟨j + 1, K, ka, rfl, rfl, by rw [HN.out], HJ.out.1, HJ.out.2, T7, Hd ⟨by have := HKS.out; omega, fun h => by omega⟩⟩
    case measure => have := HJ.out; simp [intOf]; omega
   ·have hli : ¬ (j : Int) < 10 := by omega
    have FIN := Hd (chain B1.out HT.out.from);clear hj1 hj2 hjl hlt;go_wp2_with fail;go_ret;exact ⟨rfl, FIN.out⟩
  ·have hjli : ¬ (j : Int) < (len : Int) := by omega
   have FIN := Hd (chain B1.out HT.out.from);clear hj1 hj2 hjl;go_wp2_with fail;go_ret;exact ⟨rfl, FIN.out⟩
end Go.Proofs.YthcejfnngkmojaaGreatDoor
