/-
 TrVa, MapW, TrSc, TrLk, TrEm, TrEx, TreeEmptiesLaw.
-/
import Derived.Test.YtmomlhiokggfbaaGreatDoorK20
import Derived.Test.YtmomlhiokggfbaaGreatDoorK01
import Derived.Test.YtmomlhiokggfbaaGreatDoorK08
import Derived.Test.YtmomlhiokggfbaaGreatDoorK05
import Derived.MapKept
import Derived.Test.YtmomlhiokggfbaaGreatDoorK21
import Derived.Test.YtmomlhiokggfbaaGreatDoorK03
import Derived.Deep.DeepCutAuto
namespace Go.Proofs.YtmomlhiokggfbaaGreatDoor
open Go.RowKit
set_option linter.unusedVariables false
set_option linter.unusedSimpArgs false
set_option maxRecDepth 20000
def zrowV (q : Nat) : SP := ⟨fun v w => ∃ g, v = .slice (some ⟨g, 0, none⟩) q q ∧ Byt 5 w g (List.replicate q 0), fun _ _ _ ⟨g, h1, h2⟩ hb => ⟨g, h1, h2.below hb⟩⟩
def oneV (x : UInt8) : SP := ⟨fun v w => ∃ g, v = .slice (some ⟨g, 0, none⟩) 1 1 ∧ Byt 5 w g [x], fun _ _ _ ⟨g, h1, h2⟩ hb => ⟨g, h1, h2.below hb⟩⟩
def lawM (n : Int) : Nat := (if n < 0 then -(n + 1) else n).toNat
def lawV (n : Int) : ByteArray := Str (List.replicate (lawM n % 40) 0) ++ Str [UInt8.ofNat (lawM n % 256)]
theorem lawV_size (n : Int) : (lawV n).size ≤ 40 := by
 unfold lawV
 rw [ByteArray.size_append, Str_size, Str_size, List.length_replicate]
 have := Nat.mod_lt (lawM n) (show 0 < 40 by decide)
 simp only [List.length_cons, List.length_nil]
 omega
set_option maxHeartbeats 1600000 in
set_option maxRecDepth 20000 in
theorem value_is (w : World) (n : Int) (h1 : -9223372036854775808 ≤ n) (h2 : n ≤ 9223372036854775807) :
  Calls Tryz.prog 17 #[.int .i64 n] w fun e w' => e = .returned (.string (lawV n)) ∧ Below w.heap.size w w' := by
 obtain ⟨m, hm⟩ : ∃ m, lawM n = m := ⟨_, rfl⟩
 obtain ⟨q, hq⟩ : ∃ q, m % 40 = q := ⟨_, rfl⟩
 obtain ⟨x, hx⟩ : ∃ x, UInt8.ofNat (m % 256) = x := ⟨_, rfl⟩
 obtain ⟨Z, hZ⟩ : ∃ Z, Str (List.replicate q (0 : UInt8)) = Z := ⟨_, rfl⟩
 obtain ⟨X1, hX1⟩ : ∃ X1, Str [x] = X1 := ⟨_, rfl⟩
 have FIN : Hid (lawV n = Z ++ X1) := Lib.hid (by unfold lawV; rw [hm, hq, hx, hZ, hX1])
 have HQ40 : Hid (q < 40) := Lib.hid (by rw [← hq]; exact Nat.mod_lt _ (by decide))
 have HQ : Hid ((m : Int).tmod 40 = (q : Int)) := Lib.hid (by rw [← hq]; rfl)
 have HZ := Lib.hid hZ
 have HX1 := Lib.hid hX1
 have HX : Hid (IntKind.u8.wrap (m : Int) = (x.toNat : Int)) := Lib.hid (by rw [← hx, UInt8.toNat_ofNat']; show _ = _; rw [IntKind.wrap_u8]; omega)
 have HSZ : Hid ((9223372036854775807 < Z.size + X1.size) = False) := Lib.hid (by
  rw [← hZ, ← hX1, Str_size, Str_size, List.length_replicate]
  have := HQ40.out
  simp only [List.length_cons, List.length_nil]
  exact eq_false (by omega))
 clear hq hx hZ hX1
 by_cases hn : n < 0
 ·have hm' : -(n + 1) = (m : Int) := by rw [← hm]; unfold lawM; rw [if_pos hn]; omega
  have e1 : IntKind.i64.wrap (n + 1) = n + 1 := IntWalk.i64_in _ (by omega)
  have e2 : IntKind.i64.wrap (-(n + 1)) = (m : Int) := by rw [hm']; exact IntWalk.i64_in _ (by omega)
  clear hm hm'
  go_enter Tryz.func17, Tryz.ntmps17
  go_wp2_with fail
  refine region_kit 99 17 [eqV (.int .i64 (m : Int)), eqV (.int .i64 ((q : Nat) : Int)), zrowV q, eqV (.string Z), eqV (.int .i64 (m : Int)), eqV (.int .u8 (x.toNat : Int)), oneV x, eqV (.string X1), eqV (.string (Z ++ X1)), eqV (.string (Z ++ X1))] (by kernel_rfl) (by kernel_rfl) (by rfl) ?owes ?ends
  case owes =>
   refine OwesAll.op (k := 0) rfl ?_ ?_
   ·intro a wx hS hold hdep K HK
    have d0 : a.tmps[0]?.getD undef = .int .i64 (m : Int) := hold 0 (unset_of (by kernel_rfl))
    clear hold hdep
    rw [if_pos (by rfl)]
    go_simp
    exact HK.out _ _ rfl (Below.refl _ _)
   refine OwesAll.op (k := 1) rfl ?_ ?_
   ·intro a wx hS hold hdep K HK
    have d8 : a.tmps[8]?.getD undef = .int .i64 (m : Int) := dp hdep 0 rfl rfl (by kernel_rfl)
    clear hold hdep
    have hq := HQ.out
    rw [if_pos (by rfl)]
    go_simp
    exact HK.out _ _ rfl (Below.refl _ _)
   refine OwesAll.op (k := 2) rfl ?_ ?_
   ·intro a wx hS hold hdep K HK
    have d9 : a.tmps[9]?.getD undef = .int .i64 ((q : Nat) : Int) := dp hdep 1 rfl rfl (by kernel_rfl)
    clear hold hdep
    obtain ⟨w3, hmk, hrow, hbel⟩ := made_bytes wx q q (Nat.le_refl _) (by have := HQ40.out; omega)
    have hmk' : (Instr.makeSlice 62 (.int .i64 (q : Int)) (.int .i64 (q : Int))).run Tryz.prog wx = .ok (.slice (some ⟨wx.heap.size, 0, none⟩) q q) w3 := hmk
    clear hmk
    rw [if_pos (by rfl)]
    go_simp
    exact HK.out _ _ ⟨_, rfl, hrow⟩ hbel
   refine OwesAll.op (k := 3) rfl ?_ ?_
   ·intro a wx hS hold hdep K HK
    obtain ⟨g10, d10, z10⟩ : ∃ g, a.tmps[10]?.getD undef = .slice (some ⟨g, 0, none⟩) q q ∧ Byt 5 wx g (List.replicate q 0) := dp hdep 2 rfl rfl (by kernel_rfl)
    clear hold hdep
    have hcv := z10.conv q q (by rw [List.length_replicate]; exact Nat.le_refl _)
    rw [List.take_of_length_le (by rw [List.length_replicate]; exact Nat.le_refl _), HZ.out] at hcv
    have hcv' : (convert 62 9 (.slice (some ⟨g10, 0, none⟩) q q)).run Tryz.prog wx = .ok (.string Z) wx := hcv
    clear hcv
    rw [if_pos (by rfl)]
    go_simp
    exact HK.out _ _ rfl (Below.refl _ _)
   refine OwesAll.op (k := 4) rfl ?_ ?_
   ·intro a wx hS hold hdep K HK
    have d0 : a.tmps[0]?.getD undef = .int .i64 (m : Int) := hold 0 (unset_of (by kernel_rfl))
    clear hold hdep
    rw [if_pos (by rfl)]
    go_simp
    exact HK.out _ _ rfl (Below.refl _ _)
   refine OwesAll.op (k := 5) rfl ?_ ?_
   ·intro a wx hS hold hdep K HK
    have d12 : a.tmps[12]?.getD undef = .int .i64 (m : Int) := dp hdep 4 rfl rfl (by kernel_rfl)
    clear hold hdep
    rw [if_pos (by rfl)]
    go_simp
    refine HK.out _ _ ?_ (Below.refl _ _)
    show _ = _
    first | rfl | simp only [HX.out]
   refine OwesAll.op (k := 6) rfl ?_ ?_
   ·intro a wx hS hold hdep K HK
    have d13 : a.tmps[13]?.getD undef = .int .u8 (x.toNat : Int) := dp hdep 5 rfl rfl (by kernel_rfl)
    clear hold hdep
    rw [if_pos (by rfl)]
    go_simp
    exact HK.out _ _ ⟨_, rfl, heap_alloc_new wx _⟩ (below_made _ _)
   refine OwesAll.op (k := 7) rfl ?_ ?_
   ·intro a wx hS hold hdep K HK
    obtain ⟨g14, d14, z14⟩ : ∃ g, a.tmps[14]?.getD undef = .slice (some ⟨g, 0, none⟩) 1 1 ∧ Byt 5 wx g [x] := dp hdep 6 rfl rfl (by kernel_rfl)
    clear hold hdep
    have hcv := z14.conv 1 1 (Nat.le_refl _)
    rw [show ([x] : List UInt8).take 1 = [x] from rfl, HX1.out] at hcv
    have hcv' : (convert 62 9 (.slice (some ⟨g14, 0, none⟩) 1 1)).run Tryz.prog wx = .ok (.string X1) wx := hcv
    clear hcv
    rw [if_pos (by rfl)]
    go_simp
    exact HK.out _ _ rfl (Below.refl _ _)
   refine OwesAll.op (k := 8) rfl ?_ ?_
   ·intro a wx hS hold hdep K HK
    have d11 : a.tmps[11]?.getD undef = .string Z := dp hdep 3 rfl rfl (by kernel_rfl)
    have d15 : a.tmps[15]?.getD undef = .string X1 := dp hdep 7 rfl rfl (by kernel_rfl)
    clear hold hdep
    have hs := HSZ.out
    rw [if_pos (by rfl)]
    go_simp
    exact HK.out _ _ rfl (Below.refl _ _)
   refine OwesAll.op (k := 9) rfl ?_ ?_
   ·intro a wx hS hold hdep K HK
    have d16 : a.tmps[16]?.getD undef = .string (Z ++ X1) := dp hdep 8 rfl rfl (by kernel_rfl)
    clear hold hdep
    rw [if_pos (by rfl)]
    go_simp
    exact HK.out _ _ rfl (Below.refl _ _)
   exact OwesAll.nil
  case ends =>
   intro a wx hS hsz hdf hold hdone
   simp only [List.getElem?_toArray, List.getElem?_cons_succ, List.getElem?_cons_zero, List.getElem?_nil]
   have hsz' : a.tmps.size = 17 := hsz
   have hdf' : a.defers = [] := hdf
   have ha := act_lit hsz' hdf'
   have e0 := hold 0 (unset_of (by kernel_rfl))
   have e1 := hold 1 (unset_of (by kernel_rfl))
   have e3 := hold 3 (unset_of (by kernel_rfl))
   have e4 := hold 4 (unset_of (by kernel_rfl))
   have e5 := hold 5 (unset_of (by kernel_rfl))
   have e6 := hold 6 (unset_of (by kernel_rfl))
   have e7 := hold 7 (unset_of (by kernel_rfl))
   have d8 : a.tmps.getD 8 undef = .int .i64 (m : Int) := hdone 0 _ 8 rfl (by decide) rfl
   have d9 : a.tmps.getD 9 undef = .int .i64 ((q : Nat) : Int) := hdone 1 _ 9 rfl (by decide) rfl
   have d11 : a.tmps.getD 11 undef = .string Z := hdone 3 _ 11 rfl (by decide) rfl
   have d12 : a.tmps.getD 12 undef = .int .i64 (m : Int) := hdone 4 _ 12 rfl (by decide) rfl
   have d13 : a.tmps.getD 13 undef = .int .u8 (x.toNat : Int) := hdone 5 _ 13 rfl (by decide) rfl
   have d15 : a.tmps.getD 15 undef = .string X1 := hdone 7 _ 15 rfl (by decide) rfl
   have d16 : a.tmps.getD 16 undef = .string (Z ++ X1) := hdone 8 _ 16 rfl (by decide) rfl
   have d2 : a.tmps.getD 2 undef = .string (Z ++ X1) := hdone 9 _ 2 rfl (by decide) rfl
   clear hold hdone hsz hdf hsz' hdf'
   simp only [Array.getD_eq_getD_getElem?, List.getElem?_toArray, List.getElem?_cons_succ, List.getElem?_cons_zero, Option.getD_some] at e0 e1 e3 e4 e5 e6 e7 d8 d9 d11 d12 d13 d15 d16 d2
   simp only [show (List.range 17) = [0, 1, 2, 3, 4, 5, 6, 7, 8, 9, 10, 11, 12, 13, 14, 15, 16] from rfl, List.map_cons, List.map_nil] at ha
   simp only [e0, e1, e3, e4, e5, e6, e7, d8, d9, d11, d12, d13, d15, d16, d2] at ha
   clear e0 e1 e3 e4 e5 e6 e7 d8 d9 d11 d12 d13 d15 d16 d2
   generalize a.tmps[10]?.getD undef = u10 at ha
   generalize a.tmps[14]?.getD undef = u14 at ha
   subst ha
   have HB := Lib.hid hS
   clear hS
   go_wp2_with fail
   go_ret
   exact ⟨by rw [FIN.out]; rfl, HB.out⟩
 ·obtain rfl : n = (m : Int) := by rw [← hm]; unfold lawM; rw [if_neg hn]; omega
  clear hm
  go_enter Tryz.func17, Tryz.ntmps17
  go_wp2_with fail
  refine region_kit 99 17 [eqV (.int .i64 (m : Int)), eqV (.int .i64 ((q : Nat) : Int)), zrowV q, eqV (.string Z), eqV (.int .i64 (m : Int)), eqV (.int .u8 (x.toNat : Int)), oneV x, eqV (.string X1), eqV (.string (Z ++ X1)), eqV (.string (Z ++ X1))] (by kernel_rfl) (by kernel_rfl) (by rfl) ?owes ?ends
  case owes =>
   refine OwesAll.op (k := 0) rfl ?_ ?_
   ·intro a wx hS hold hdep K HK
    have d0 : a.tmps[0]?.getD undef = .int .i64 (m : Int) := hold 0 (unset_of (by kernel_rfl))
    clear hold hdep
    rw [if_pos (by rfl)]
    go_simp
    exact HK.out _ _ rfl (Below.refl _ _)
   refine OwesAll.op (k := 1) rfl ?_ ?_
   ·intro a wx hS hold hdep K HK
    have d8 : a.tmps[8]?.getD undef = .int .i64 (m : Int) := dp hdep 0 rfl rfl (by kernel_rfl)
    clear hold hdep
    have hq := HQ.out
    rw [if_pos (by rfl)]
    go_simp
    exact HK.out _ _ rfl (Below.refl _ _)
   refine OwesAll.op (k := 2) rfl ?_ ?_
   ·intro a wx hS hold hdep K HK
    have d9 : a.tmps[9]?.getD undef = .int .i64 ((q : Nat) : Int) := dp hdep 1 rfl rfl (by kernel_rfl)
    clear hold hdep
    obtain ⟨w3, hmk, hrow, hbel⟩ := made_bytes wx q q (Nat.le_refl _) (by have := HQ40.out; omega)
    have hmk' : (Instr.makeSlice 62 (.int .i64 (q : Int)) (.int .i64 (q : Int))).run Tryz.prog wx = .ok (.slice (some ⟨wx.heap.size, 0, none⟩) q q) w3 := hmk
    clear hmk
    rw [if_pos (by rfl)]
    go_simp
    exact HK.out _ _ ⟨_, rfl, hrow⟩ hbel
   refine OwesAll.op (k := 3) rfl ?_ ?_
   ·intro a wx hS hold hdep K HK
    obtain ⟨g10, d10, z10⟩ : ∃ g, a.tmps[10]?.getD undef = .slice (some ⟨g, 0, none⟩) q q ∧ Byt 5 wx g (List.replicate q 0) := dp hdep 2 rfl rfl (by kernel_rfl)
    clear hold hdep
    have hcv := z10.conv q q (by rw [List.length_replicate]; exact Nat.le_refl _)
    rw [List.take_of_length_le (by rw [List.length_replicate]; exact Nat.le_refl _), HZ.out] at hcv
    have hcv' : (convert 62 9 (.slice (some ⟨g10, 0, none⟩) q q)).run Tryz.prog wx = .ok (.string Z) wx := hcv
    clear hcv
    rw [if_pos (by rfl)]
    go_simp
    exact HK.out _ _ rfl (Below.refl _ _)
   refine OwesAll.op (k := 4) rfl ?_ ?_
   ·intro a wx hS hold hdep K HK
    have d0 : a.tmps[0]?.getD undef = .int .i64 (m : Int) := hold 0 (unset_of (by kernel_rfl))
    clear hold hdep
    rw [if_pos (by rfl)]
    go_simp
    exact HK.out _ _ rfl (Below.refl _ _)
   refine OwesAll.op (k := 5) rfl ?_ ?_
   ·intro a wx hS hold hdep K HK
    have d12 : a.tmps[12]?.getD undef = .int .i64 (m : Int) := dp hdep 4 rfl rfl (by kernel_rfl)
    clear hold hdep
    rw [if_pos (by rfl)]
    go_simp
    refine HK.out _ _ ?_ (Below.refl _ _)
    show _ = _
    first | rfl | simp only [HX.out]
   refine OwesAll.op (k := 6) rfl ?_ ?_
   ·intro a wx hS hold hdep K HK
    have d13 : a.tmps[13]?.getD undef = .int .u8 (x.toNat : Int) := dp hdep 5 rfl rfl (by kernel_rfl)
    clear hold hdep
    rw [if_pos (by rfl)]
    go_simp
    exact HK.out _ _ ⟨_, rfl, heap_alloc_new wx _⟩ (below_made _ _)
   refine OwesAll.op (k := 7) rfl ?_ ?_
   ·intro a wx hS hold hdep K HK
    obtain ⟨g14, d14, z14⟩ : ∃ g, a.tmps[14]?.getD undef = .slice (some ⟨g, 0, none⟩) 1 1 ∧ Byt 5 wx g [x] := dp hdep 6 rfl rfl (by kernel_rfl)
    clear hold hdep
    have hcv := z14.conv 1 1 (Nat.le_refl _)
    rw [show ([x] : List UInt8).take 1 = [x] from rfl, HX1.out] at hcv
    have hcv' : (convert 62 9 (.slice (some ⟨g14, 0, none⟩) 1 1)).run Tryz.prog wx = .ok (.string X1) wx := hcv
    clear hcv
    rw [if_pos (by rfl)]
    go_simp
    exact HK.out _ _ rfl (Below.refl _ _)
   refine OwesAll.op (k := 8) rfl ?_ ?_
   ·intro a wx hS hold hdep K HK
    have d11 : a.tmps[11]?.getD undef = .string Z := dp hdep 3 rfl rfl (by kernel_rfl)
    have d15 : a.tmps[15]?.getD undef = .string X1 := dp hdep 7 rfl rfl (by kernel_rfl)
    clear hold hdep
    have hs := HSZ.out
    rw [if_pos (by rfl)]
    go_simp
    exact HK.out _ _ rfl (Below.refl _ _)
   refine OwesAll.op (k := 9) rfl ?_ ?_
   ·intro a wx hS hold hdep K HK
    have d16 : a.tmps[16]?.getD undef = .string (Z ++ X1) := dp hdep 8 rfl rfl (by kernel_rfl)
    clear hold hdep
    rw [if_pos (by rfl)]
    go_simp
    exact HK.out _ _ rfl (Below.refl _ _)
   exact OwesAll.nil
  case ends =>
   intro a wx hS hsz hdf hold hdone
   simp only [List.getElem?_toArray, List.getElem?_cons_succ, List.getElem?_cons_zero, List.getElem?_nil]
   have hsz' : a.tmps.size = 17 := hsz
   have hdf' : a.defers = [] := hdf
   have ha := act_lit hsz' hdf'
   have e0 := hold 0 (unset_of (by kernel_rfl))
   have e1 := hold 1 (unset_of (by kernel_rfl))
   have e3 := hold 3 (unset_of (by kernel_rfl))
   have e4 := hold 4 (unset_of (by kernel_rfl))
   have e5 := hold 5 (unset_of (by kernel_rfl))
   have e6 := hold 6 (unset_of (by kernel_rfl))
   have e7 := hold 7 (unset_of (by kernel_rfl))
   have d8 : a.tmps.getD 8 undef = .int .i64 (m : Int) := hdone 0 _ 8 rfl (by decide) rfl
   have d9 : a.tmps.getD 9 undef = .int .i64 ((q : Nat) : Int) := hdone 1 _ 9 rfl (by decide) rfl
   have d11 : a.tmps.getD 11 undef = .string Z := hdone 3 _ 11 rfl (by decide) rfl
   have d12 : a.tmps.getD 12 undef = .int .i64 (m : Int) := hdone 4 _ 12 rfl (by decide) rfl
   have d13 : a.tmps.getD 13 undef = .int .u8 (x.toNat : Int) := hdone 5 _ 13 rfl (by decide) rfl
   have d15 : a.tmps.getD 15 undef = .string X1 := hdone 7 _ 15 rfl (by decide) rfl
   have d16 : a.tmps.getD 16 undef = .string (Z ++ X1) := hdone 8 _ 16 rfl (by decide) rfl
   have d2 : a.tmps.getD 2 undef = .string (Z ++ X1) := hdone 9 _ 2 rfl (by decide) rfl
   clear hold hdone hsz hdf hsz' hdf'
   simp only [Array.getD_eq_getD_getElem?, List.getElem?_toArray, List.getElem?_cons_succ, List.getElem?_cons_zero, Option.getD_some] at e0 e1 e3 e4 e5 e6 e7 d8 d9 d11 d12 d13 d15 d16 d2
   simp only [show (List.range 17) = [0, 1, 2, 3, 4, 5, 6, 7, 8, 9, 10, 11, 12, 13, 14, 15, 16] from rfl, List.map_cons, List.map_nil] at ha
   simp only [e0, e1, e3, e4, e5, e6, e7, d8, d9, d11, d12, d13, d15, d16, d2] at ha
   clear e0 e1 e3 e4 e5 e6 e7 d8 d9 d11 d12 d13 d15 d16 d2
   generalize a.tmps[10]?.getD undef = u10 at ha
   generalize a.tmps[14]?.getD undef = u14 at ha
   subst ha
   have HB := Lib.hid hS
   clear hS
   go_wp2_with fail
   go_ret
   exact ⟨by rw [FIN.out]; rfl, HB.out⟩
end Go.Proofs.YtmomlhiokggfbaaGreatDoor
namespace Go.Proofs.YtmomlhiokggfbaaGreatDoor
open Go.RowKit
set_option linter.unusedVariables false
set_option maxRecDepth 20000
def getW : List (Int × Value) → Int → Option Value
 | [], _ => none
 | p :: L, k => if p.1 = k then some p.2 else getW L k
def setW : List (Int × Value) → Int → Value → List (Int × Value)
 | [], k, v => [(k, v)]
 | p :: L, k, v => if p.1 = k then (k, v) :: L else p :: setW L k v
def EntW (L : List (Int × Value)) (l : List MapEntry) : Prop := l.map (fun e => (e.key, e.val)) = L.map (fun p => (Value.int .u64 p.1, p.2))
def MapW (w : World) (m : Nat) (L : List (Int × Value)) : Prop := ∃ es clock, w.heap[m]? = some (.map es clock) ∧ EntW L es.toList
theorem MapW.lt {w : World} {m : Nat} {L : List (Int × Value)} (h : MapW w m L) : m < w.heap.size := by
 obtain ⟨es, c, hb, _⟩ := h
 exact (Array.getElem?_eq_some_iff.1 hb).1
theorem MapW.kept {w w' : World} {m : Nat} {L : List (Int × Value)} (h : MapW w m L) (e : w'.heap[m]? = w.heap[m]?) : MapW w' m L := by
 obtain ⟨es, c, hb, he⟩ := h
 exact ⟨es, c, e.trans hb, he⟩
theorem MapW.below {w w' : World} {m : Nat} {L : List (Int × Value)} (h : MapW w m L) (hb : Below w.heap.size w w') : MapW w' m L := h.kept (hb.block _ h.lt)
def dW : TypeDesc := .int .u64
theorem same_W (a b : Int) : Instr.sameNow dW (.int .u64 a) (.int .u64 b) = some (a == b) := by simp [Instr.sameNow, dW]
theorem findW (n : Int) : ∀ (l : List MapEntry) (L : List (Int × Value)) (i : Nat), EntW L l →
  (Instr.findNow dW (.int .u64 n) l i = some none ∧ getW L n = none ∧ ∀ v, setW L n v = L ++ [(n, v)]) ∨ ∃ j v, Instr.findNow dW (.int .u64 n) l i = some (some (i + j, v)) ∧ j < l.length ∧ getW L n = some v ∧ L.map (·.1) = L.map (·.1) ∧ ∀ v', setW L n v' = L.set j (n, v')
 | [], L, _, h => by
  cases L with
  | nil => exact .inl ⟨rfl, rfl, fun _ => rfl⟩
  | cons p L => simp [EntW] at h
 | e :: l, [], _, h => by simp [EntW] at h
 | e :: l, p :: L, i, h => by
  simp only [EntW, List.map_cons, List.cons.injEq, Prod.mk.injEq] at h
  by_cases hp : p.1 = n
  ·refine .inr ⟨0, p.2, ?_, by simp, ?_, rfl, ?_⟩
   ·have hs : Instr.sameNow dW (.int .u64 n) e.key = some true := by rw [h.1.1, same_W, hp]; simp
    simp only [Instr.findNow, hs, h.1.2, Nat.add_zero]
   ·simp only [getW]; rw [if_pos hp]
   ·intro v'; simp only [setW]; rw [if_pos hp]; rfl
  ·have hs : Instr.sameNow dW (.int .u64 n) e.key = some false := by
    rw [h.1.1, same_W]
    congr 1
    rw [beq_eq_false_iff_ne]
    exact Ne.symm hp
   rcases findW n l L (i + 1) h.2 with ⟨h1, h2, h3⟩ | ⟨j, v, h1, h2, h3, _, h4⟩
   ·refine .inl ⟨by simp only [Instr.findNow, hs]; exact h1, by simp only [getW]; rw [if_neg hp]; exact h2, fun v => ?_⟩
    simp only [setW]; rw [if_neg hp, h3]; rfl
   ·refine .inr ⟨j + 1, v, by simp only [Instr.findNow, hs]; rw [h1]; congr 3; omega, by simpa using h2, by simp only [getW]; rw [if_neg hp]; exact h3, rfl, fun v' => ?_⟩
    simp only [setW]; rw [if_neg hp, h4]; rfl
section
variable {P : Program} {w : World} {m : Nat} {L : List (Int × Value)} {t k e : TypeId} (ht : P.underlying t = some (.map k e)) (hk : P.underlying k = some (.int .u64))
include ht hk
theorem lookupW (h : MapW w m L) (n : Int) (z : Value) (hz : (zeroValue e).run P w = .ok z w) (ok : Bool) :
  (Instr.lookup t (.map (some m)) (.int .u64 n) ok).run P w = .ok (if ok then .tuple #[((getW L n).getD z), .bool (getW L n).isSome] else ((getW L n).getD z)) w := by
 obtain ⟨es, c, hb, he⟩ := h
 have h1 := MapKept.run_getObj_map (P := P) hb
 have h2 := MapKept.run_checkKey (P := P) (w := w) hk (k := .int .u64 n) (by first | rfl | trivial | exact ⟨_, rfl⟩) es.isEmpty 9999
 rcases findW n es.toList L 0 he with ⟨f1, f2, _⟩ | ⟨j, v, f1, _, f2, _, _⟩
 ·have h3 := MapKept.run_findKey (P := P) (w := w) hk f1
  rw [f2]
  cases ok <;> simp [Instr.lookup, run_underlying ht, h1, h2, h3, hz]
 ·have h3 := MapKept.run_findKey (P := P) (w := w) hk f1
  rw [f2]
  cases ok <;> simp [Instr.lookup, run_underlying ht, h1, h2, h3]
theorem updateW (h : MapW w m L) (n : Int) (v : Value) :
  ∃ o, (Instr.mapUpdate t (.map (some m)) (.int .u64 n) v).run P w = .ok () { w with heap := w.heap.setIfInBounds m o } ∧ MapW { w with heap := w.heap.setIfInBounds m o } m (setW L n v) := by
 obtain ⟨es, c, hb, he⟩ := h
 have h1 := MapKept.run_getObj_map (P := P) hb
 have h2 := MapKept.run_checkKey (P := P) (w := w) hk (k := .int .u64 n) (by first | rfl | trivial | exact ⟨_, rfl⟩) false 9999
 rcases findW n es.toList L 0 he with ⟨f1, f2, f3⟩ | ⟨j, u, f1, fj, f2, _, f3⟩
 ·have h3 := MapKept.run_findKey (P := P) (w := w) hk f1
  have h4 := MapKept.run_setObj_map (P := P) (.map (es.push { key := .int .u64 n, val := v, born := c }) (c + 1)) hb
  refine ⟨_, by simp [Instr.mapUpdate, run_underlying ht, h1, h2, h3, h4]; rfl, ?_⟩
  refine ⟨_, _, (MapKept.heap_set hb).1, ?_⟩
  unfold EntW at *
  rw [f3, Array.toList_push, List.map_append, he, List.map_append]
  rfl
 ·have h3 := MapKept.run_findKey (P := P) (w := w) hk f1
  rw [Nat.zero_add] at h3
  have hke : ∀ e, es[j]? = some e → e.key = .int .u64 n := by
   intro e hej
   have hl : L.length = es.toList.length := by have := congrArg List.length he; simpa using this.symm
   have h5 := f3 v
   have e1 : (es.toList.map (fun e => (e.key, e.val)))[j]? = some (e.key, e.val) := by rw [List.getElem?_map, Array.getElem?_toList, hej]; rfl
   rw [he, List.getElem?_map] at e1
   have hjL : j < L.length := by rw [hl]; exact fj
   rw [List.getElem?_eq_getElem hjL] at e1
   simp only [Option.map_some, Option.some.injEq, Prod.mk.injEq] at e1
   have hn : L[j].1 = n := by
    have : ∀ (l : List MapEntry) (L : List (Int × Value)) (i j : Nat) (x : Value), EntW L l → Instr.findNow dW (.int .u64 n) l i = some (some (i + j, x)) → ∀ h : j < L.length, L[j].1 = n := by
     intro l
     induction l with
     | nil => intro L i j x _ hf; simp [Instr.findNow] at hf
     | cons a l ih =>
      intro L i j x hE hf hj
      cases L with
      | nil => cases hj
      | cons p L =>
       simp only [EntW, List.map_cons, List.cons.injEq, Prod.mk.injEq] at hE
       simp only [Instr.findNow] at hf
       rw [hE.1.1, same_W] at hf
       by_cases hp : n = p.1
       ·simp [hp] at hf
        obtain rfl : j = 0 := by omega
        exact hp.symm
       ·rw [show (n == p.1) = false from by simpa using hp] at hf
        simp only at hf
        cases j with
        | zero =>
         exfalso
         have hgt : ∀ (l : List MapEntry) (i : Nat) (r : Nat) (x : Value), Instr.findNow dW (.int .u64 n) l i = some (some (r, x)) → i ≤ r := by
          intro l
          induction l with
          | nil => intro i r x h; simp [Instr.findNow] at h
          | cons b l ih =>
           intro i r x h
           simp only [Instr.findNow] at h
           split at h
           ·simp at h; omega
           ·have := ih _ _ _ h; omega
           ·cases h
         have := hgt l (i + 1) (i + 0) x hf
         omega
        | succ j => exact ih L (i + 1) j x hE.2 (by rw [show i + 1 + j = i + (j + 1) from by omega]; exact hf) (by simpa using hj)
    exact this es.toList L 0 j _ he f1 hjL
   rw [← e1.1, hn]
  have h4 := MapKept.run_setObj_map (P := P) (.map (es.modify j fun e => { e with key := .int .u64 n, val := v }) c) hb
  have h6 : (Instr.keyThatStays (((es[j]?).map (·.key)).getD (.int .u64 n)) (.int .u64 n)).run P w = .ok (.int .u64 n) w := by
   have : ((es[j]?).map (·.key)).getD (.int .u64 n) = .int .u64 n := by
    cases hq : es[j]? with
    | none => rfl
    | some e => simp [hke e hq]
   rw [this]
   exact MapKept.run_keyThatStays (d := dW) (by first | rfl | trivial | exact ⟨_, rfl⟩)
  refine ⟨_, by simp [Instr.mapUpdate, run_underlying ht, h1, h2, h3, h6, h4]; rfl, ?_⟩
  refine ⟨_, _, (MapKept.heap_set hb).1, ?_⟩
  unfold EntW at *
  rw [f3 v, List.map_set, ← he]
  apply List.ext_getElem?
  intro i
  rw [List.getElem?_map, Array.getElem?_toList, Array.getElem?_modify, List.getElem?_set]
  by_cases hij : j = i
  ·subst hij
   rw [if_pos rfl, if_pos rfl, if_pos (by simpa using fj)]
   have : j < es.size := by simpa using fj
   rw [Array.getElem?_eq_getElem this]
   rfl
  ·rw [if_neg hij, if_neg hij, List.getElem?_map, Array.getElem?_toList]
theorem updateWB (h : MapW w m L) (n : Int) (v : Value) :
  ∃ w', (Instr.mapUpdate t (.map (some m)) (.int .u64 n) v).run P w = .ok () w' ∧ MapW w' m (setW L n v) ∧ Below m w w' ∧ w'.heap.size = w.heap.size ∧ Frm (fun x => x = m) w w' := by
 obtain ⟨o, h1, h2⟩ := updateW ht hk h n v
 obtain ⟨es, c, hb, _⟩ := h
 refine ⟨_, h1, h2, ⟨rfl, rfl, rfl, by simp, fun k hk => (MapKept.heap_set hb).2 k (Nat.ne_of_lt hk)⟩, by simp, (Frm.refl _ w).setObj m o (.inl rfl)⟩
end
end Go.Proofs.YtmomlhiokggfbaaGreatDoor
namespace Go.Proofs.YtmomlhiokggfbaaGreatDoor
set_option linter.unusedVariables false
set_option linter.unusedSimpArgs false
set_option maxRecDepth 20000

end Go.Proofs.YtmomlhiokggfbaaGreatDoor
namespace Go.Proofs.YtmomlhiokggfbaaGreatDoor
open Go.RowKit
set_option linter.unusedVariables false
set_option linter.unusedSimpArgs false
set_option maxRecDepth 20000
theorem int_cellA {w : World} {a : Option Addr} {len cap : Nat} {zs : List Int} (hk : IsInts .i64 w a len cap zs) (j : Nat) (hj : j < len) : ∃ (x : Addr) (z : Int), a = some x ∧ zs.getD j 0 = z ∧ (-9223372036854775808 ≤ z ∧ z ≤ 9223372036854775807) ∧ Hid (∀ wr, Below w.heap.size w wr → wr.cell? (x.add j) = some (.int .i64 z)) := by
 rcases hk with ⟨rfl, rfl, rfl, rfl⟩ | ⟨x, rfl, h1, h2, h3, h4, h5⟩
 ·omega
 ·have hjl : j < zs.length := by omega
  refine ⟨x, _, rfl, rfl, ?_, Lib.hid fun wr hb => ?_⟩
  ·have hm : zs.getD j 0 ∈ zs := by
    rw [List.getD_eq_getElem?_getD, List.getElem?_eq_getElem hjl]
    exact List.getElem_mem hjl
   have hw := h5 _ hm
   generalize zs.getD j 0 = z at hw ⊢
   simp [Lit.wf] at hw
   have e1 : IntKind.i64.min = -9223372036854775808 := by rfl
   have e2 : IntKind.i64.max = 9223372036854775807 := by rfl
   omega
  ·have hc := h4 j hjl
   have hlt : (x.add j).block < w.heap.size := by
    unfold World.cell? at hc
    cases hq : w.heap[(x.add j).block]? with
    | none => rw [hq] at hc; simp at hc
    | some b => exact (Array.getElem?_eq_some_iff.1 hq).1
   exact (hb.cell hlt).trans hc
theorem ints_len {w : World} {a : Option Addr} {len cap : Nat} {zs : List Int} (hk : IsInts .i64 w a len cap zs) : (len : Int) ≤ 9223372036854775807 := by
 rcases hk with ⟨_, rfl, _, _⟩ | ⟨_, _, h1, h2, _⟩
 ·decide
 ·unfold maxLen at h2; omega
def setL (K : List Int) : List (Int × Value) := K.map fun k => (k, .bool true)
theorem setL_get (K : List Int) (k : Int) : (getW (setL K) k).getD (.bool false) = .bool (decide (k ∈ K)) := by
 induction K with
 | nil => rfl
 | cons x K ih =>
  show (if x = k then some (Value.bool true) else getW (setL K) k).getD _ = _
  by_cases hx : x = k
  ·rw [if_pos hx]; simp [hx]
  ·rw [if_neg hx, ih]
   congr 1
   rw [Bool.eq_iff_iff]
   simp [Ne.symm hx]
theorem setL_put (K : List Int) (k : Int) : setW (setL K) k (.bool true) = setL (if k ∈ K then K else K ++ [k]) := by
 induction K with
 | nil => rfl
 | cons x K ih =>
  show (if x = k then (k, Value.bool true) :: setL K else (x, .bool true) :: setW (setL K) k (.bool true)) = _
  by_cases hx : x = k
  ·rw [if_pos hx, if_pos (by simp [hx]), hx]; rfl
  ·rw [if_neg hx, ih]
   by_cases hk : k ∈ K
   ·rw [if_pos hk, if_pos (List.mem_cons_of_mem _ hk)]; rfl
   ·rw [if_neg hk, if_neg (by simp [hk, Ne.symm hx])]; rfl
theorem bool_zero (P : Program) (w : World) : (zeroValue 4).run Tryz.prog w = .ok (.bool false) w := by kernel_rfl
section
structure EmI (w1 w : World) (b d x' s r' m : Nat) (v : Value) (KM KR : List Int) (p : Option Int) (E : List Ent) (root : Int) : Prop where
 tr : TrR w1 (v.ownBlock.toList ++ [m, b]) w d s 400 root E
 cb : w.heap[b]? = some (.cells #[.pointer (some ⟨d, 0, none⟩), .pointer (some ⟨x', 0, none⟩), .pointer (some ⟨s, 0, none⟩), .pointer (some ⟨r', 0, none⟩), .int .i64 root] 39)
 mp : MapW w m (setL KM)
 row : w.ownsRow 0 28 1 v KR.length (KR.map fun k => .int .u64 k)
 nd : KR.Nodup
 ke : ∀ x, x ∈ keysE E ↔ x ∈ KM ∨ some x = p
 kb : ∀ k ∈ KR, 0 ≤ k ∧ k ≤ 18446744073709551615
 lo : w1.heap.size ≤ m ∧ w1.heap.size ≤ b ∧ m ≠ b
 ob : ∀ k, v.ownBlock = some k → w1.heap.size ≤ k ∧ k ≠ m ∧ k ≠ b
theorem u64_info : ∃ i, Tryz.prog.info? 28 = some i ∧ i.zero = some (.int .u64 0) ∧ i.size = 1 ∧ i.bytes = 8 := by
 have : (Tryz.prog.info? 28).map (fun i => (i.zero, i.size, i.bytes)) = some (some (.int .u64 0), 1, 8) := by kernel_rfl
 cases hq : Tryz.prog.info? 28 with
 | none => rw [hq] at this; cases this
 | some i =>
  rw [hq] at this
  simp only [Option.map_some, Option.some.injEq, Prod.mk.injEq] at this
  exact ⟨i, rfl, this.1, this.2.1, this.2.2⟩
theorem row_shape {w : World} {bs : Nat} {e : TypeId} {v : Value} {n : Nat} {xs : List Value} (h : w.ownsRow bs e 1 v n xs) : ∃ va vc, v = .slice va n vc := by
 rcases h.2 with ⟨rfl, rfl⟩ | ⟨g, cap, cur, rfl, _⟩
 ·exact ⟨none, 0, rfl⟩
 ·exact ⟨_, _, rfl⟩
theorem cell_same {w w' : World} {g i : Nat} (h : w'.heap[g]? = w.heap[g]?) : w'.cell? ⟨g, i, none⟩ = w.cell? ⟨g, i, none⟩ := by
 unfold World.cell?
 rw [show (⟨g, i, none⟩ : Addr).block = g from rfl, h]
variable {w1 w : World} {b d x' s r' m : Nat} {v : Value} {KM KR : List Int} {p : Option Int} {E : List Ent} {root : Int}
theorem EmI.below (h : EmI w1 w b d x' s r' m v KM KR p E root) {w' : World} (hb : Below w.heap.size w w') : EmI w1 w' b d x' s r' m v KM KR p E root :=
 ⟨h.tr.below hb, (hb.block _ (h.tr.lt b (by simp))).trans h.cb, h.mp.below hb, ownsRow_keptN h.row (fun k hk => hb.block k (h.tr.lt k (by simp [hk]))), h.nd, h.ke, h.kb, h.lo, h.ob⟩
theorem EmI.put (h : EmI w1 w b d x' s r' m v KM KR none E root) {w6 w7 : World} {q k : Int} {val : ByteArray} (hT : TrR w1 (v.ownBlock.toList ++ [m, b]) w6 d s 400 q (insE k val E)) (hK : KeptL (v.ownBlock.toList ++ [m, b]) w w6) (h7 : w6.setCell ⟨b, 4, none⟩ (.int .i64 q) = w7) : EmI w1 w7 b d x' s r' m v KM KR (some k) (insE k val E) q := by
 have f : Frm (fun k => k = b) w6 w7 := by rw [← h7]; exact set_frm _
 have hm : ∀ i ∈ v.ownBlock.toList ++ [m, b], i ≠ b → w7.heap[i]? = w.heap[i]? := fun i hi hne => (f.block i (hT.lt i hi) hne).trans (hK i hi)
 refine ⟨hT.turn (by simp) h.lo.2.1 f, ?_, h.mp.kept (hm m (by simp) h.lo.2.2), ownsRow_keptN h.row (fun i hi => hm i (by simp [hi]) (h.ob i hi).2.2), h.nd, fun x => ?_, h.kb, h.lo, h.ob⟩
 ·rw [← h7, heap_setCell_same _ _ 4 _ _ _ ((hK b (by simp)).trans h.cb)]
  rfl
 ·rw [mem_insE, h.ke]
  simp only [Option.some.injEq]
  constructor
  ·rintro (h1 | h1 | h1)
   ·exact .inr h1
   ·exact .inl h1
   ·cases h1
  ·rintro (h1 | h1)
   ·exact .inr (.inl h1)
   ·exact .inl h1
theorem EmI.mapped {k : Int} (h : EmI w1 w b d x' s r' m v KM KR (some k) E root) {w' : World} (hmp : MapW w' m (setW (setL KM) k (.bool true))) (hf : Frm (fun x => x = m) w w') : EmI w1 w' b d x' s r' m v (if k ∈ KM then KM else KM ++ [k]) KR none E root := by
 refine ⟨h.tr.turn (by simp) h.lo.1 hf, (hf.block b (h.tr.lt b (by simp)) (Ne.symm h.lo.2.2)).trans h.cb, by rw [setL_put] at hmp; exact hmp, ownsRow_keptN h.row (fun i hi => hf.block i (h.tr.lt i (by simp [hi])) (h.ob i hi).2.1), h.nd, fun x => ?_, h.kb, h.lo, h.ob⟩
 rw [h.ke]
 simp only [Option.some.injEq]
 by_cases hk : k ∈ KM
 ·rw [if_pos hk]
  constructor
  ·rintro (h1 | rfl)
   ·exact .inl h1
   ·exact .inl hk
  ·rintro (h1 | h1)
   ·exact .inl h1
   ·cases h1
 ·rw [if_neg hk, List.mem_append, List.mem_singleton]
  constructor
  ·exact .inl
  ·rintro (h1 | h1)
   ·exact h1
   ·cases h1
theorem EmI.app {k : Int} (h : EmI w1 w b d x' s r' m v KM KR p E root) (hk : k ∉ KR) (hb : 0 ≤ k ∧ k ≤ 18446744073709551615) {w9 w' : World} {v' : Value} {kk : Nat} (h9 : Below w.heap.size w w9) (ho : w'.ownsRow 0 28 1 v' (KR.length + 1) ((KR.map fun k => .int .u64 k) ++ [.int .u64 k])) (hg : w9.grownBy w' v.ownBlock) (h1 : v'.ownBlock = some kk) (h2 : v.ownBlock = some kk ∨ kk = w9.heap.size) : EmI w1 w' b d x' s r' m v' KM (KR ++ [k]) p E root := by
 have h' := h.below h9
 have hfr : Frm (fun i => v.ownBlock = some i) w9 w' := (Frm.refl _ w9).grown hg fun i hi => .inl hi
 have hlt' : kk < w'.heap.size := by
  rcases ho.2 with ⟨rfl, _⟩ | ⟨g, cap, cur, rfl, _, hgg, _⟩
  ·cases h1
  ·have : kk = g := by injection h1 with h1; exact h1.symm
   rw [this]; exact (Array.getElem?_eq_some_iff.1 hgg).1
 have hlo : w1.heap.size ≤ kk ∧ kk ≠ m ∧ kk ≠ b := by
  rcases h2 with h2 | rfl
  ·exact h.ob kk h2
  ·have a1 := h'.tr.lt m (by simp)
   have a2 := h'.tr.lt b (by simp)
   have a3 := h'.tr.size.size
   exact ⟨a3, by omega, by omega⟩
 have htr := (h'.tr.adds (G := fun i => v.ownBlock = some i) (fun i hi => ⟨by simp [hi], (h.ob i hi).1⟩) hfr kk (h2.elim (fun e => .inl (by simp [e])) (fun e => .inr ⟨by omega, hlt'⟩))).sub (R' := v'.ownBlock.toList ++ [m, b]) (fun i hi => by
  rw [h1] at hi
  simp only [Option.toList_some, List.cons_append, List.nil_append, List.mem_cons, List.not_mem_nil, or_false] at hi
  rcases hi with rfl | rfl | rfl <;> simp)
 refine ⟨htr, (hfr.block b (h'.tr.lt b (by simp)) (fun e => (h.ob b e).2.2 rfl)).trans h'.cb, h'.mp.kept (hfr.block m (h'.tr.lt m (by simp)) (fun e => (h.ob m e).2.1 rfl)), ?_, ?_, h.ke, fun i hi => ?_, h.lo, fun i hi => ?_⟩
 ·rw [List.length_append, List.map_append]; exact ho
 ·rw [List.nodup_append]
  refine ⟨h.nd, by simp, fun a ha c hc => ?_⟩
  rw [List.mem_singleton] at hc
  subst hc
  exact fun e => hk (e ▸ ha)
 ·rcases List.mem_append.1 hi with hi | hi
  ·exact h.kb i hi
  ·rw [List.mem_singleton] at hi; rw [hi]; exact hb
 ·rw [h1] at hi
  injection hi with hi
  rw [← hi]; exact hlo
def rotA (n y t : Nat) : Nat := (y % n + t) % n
theorem rotA_inj {n y t u : Nat} (ht : t < n) (hu : u < n) (h : rotA n y t = rotA n y u) : t = u := by
 unfold rotA at h
 have hy := Nat.mod_lt y (show 0 < n by omega)
 generalize y % n = q at *
 by_cases h1 : q + t < n
 ·rw [Nat.mod_eq_of_lt h1] at h
  by_cases h2 : q + u < n
  ·rw [Nat.mod_eq_of_lt h2] at h; omega
  ·rw [Nat.mod_eq_sub_mod (by omega), Nat.mod_eq_of_lt (by omega)] at h; omega
 ·rw [Nat.mod_eq_sub_mod (by omega), Nat.mod_eq_of_lt (by omega)] at h
  by_cases h2 : q + u < n
  ·rw [Nat.mod_eq_of_lt h2] at h; omega
  ·rw [Nat.mod_eq_sub_mod (by omega), Nat.mod_eq_of_lt (by omega)] at h; omega
theorem rotA_lt {n y t : Nat} (hn : 0 < n) : rotA n y t < n := Nat.mod_lt _ hn
def LeftK (K : List Int) (y i : Nat) (x : Int) : Prop := ∃ t, i ≤ t ∧ t < K.length ∧ K[rotA K.length y t]? = some x
theorem LeftK.next {K : List Int} (hn : K.Nodup) {y i : Nat} (hi : i < K.length) {k : Int} (hk : K[rotA K.length y i]? = some k) (x : Int) : LeftK K y (i + 1) x ↔ x ≠ k ∧ LeftK K y i x := by
 constructor
 ·rintro ⟨t, h1, h2, h3⟩
  refine ⟨fun e => ?_, t, by omega, h2, h3⟩
  subst e
  have l1 := rotA_lt (n := K.length) (y := y) (t := t) (by omega)
  have l2 := rotA_lt (n := K.length) (y := y) (t := i) (by omega)
  have hpw := List.pairwise_iff_getElem.1 (show K.Pairwise (· ≠ ·) from hn)
  rw [List.getElem?_eq_getElem l1] at h3
  have hk' := hk
  rw [List.getElem?_eq_getElem l2] at hk'
  have e : rotA K.length y t = rotA K.length y i := by
   apply Decidable.byContradiction
   intro hne
   rcases Nat.lt_or_gt_of_ne hne with hlt | hlt
   ·exact hpw _ _ l1 l2 hlt (Option.some.inj (h3.trans hk'.symm))
   ·exact hpw _ _ l2 l1 hlt (Option.some.inj (hk'.trans h3.symm))
  have := rotA_inj h2 hi e
  omega
 ·rintro ⟨hne, t, h1, h2, h3⟩
  refine ⟨t, ?_, h2, h3⟩
  rcases Nat.lt_or_eq_of_le h1 with h | rfl
  ·exact h
  ·exact absurd (Option.some.inj (h3.symm.trans hk)) hne
theorem LeftK.start {K : List Int} (y : Nat) (x : Int) : LeftK K y 0 x ↔ x ∈ K := by
 constructor
 ·rintro ⟨t, _, _, h⟩
  exact List.mem_of_getElem? h
 ·intro h
  obtain ⟨i, hi, rfl⟩ := List.mem_iff_getElem.1 h
  have hn : 0 < K.length := by omega
  have hy := Nat.mod_lt y hn
  refine ⟨(i + K.length - y % K.length) % K.length, Nat.zero_le _, Nat.mod_lt _ hn, ?_⟩
  have e : rotA K.length y ((i + K.length - y % K.length) % K.length) = i := by
   unfold rotA
   rw [Nat.add_mod_mod]
   rw [show y % K.length + (i + K.length - y % K.length) = i + K.length by omega, Nat.add_mod_right, Nat.mod_eq_of_lt hi]
  rw [e, List.getElem?_eq_getElem hi]
theorem LeftK.done {K : List Int} {y i : Nat} (hi : K.length ≤ i) (x : Int) : ¬ LeftK K y i x := fun ⟨t, h1, h2, _⟩ => by omega
structure DeI (w1 w5 w : World) (b d x' s r' m : Nat) (v : Value) (K : List Int) (y i : Nat) (E : List Ent) (root : Int) : Prop where
 tr : TrR w1 (v.ownBlock.toList ++ [m, b]) w d s 400 root E
 cb : w.heap[b]? = some (.cells #[.pointer (some ⟨d, 0, none⟩), .pointer (some ⟨x', 0, none⟩), .pointer (some ⟨s, 0, none⟩), .pointer (some ⟨r', 0, none⟩), .int .i64 root] 39)
 rk : ∀ k, v.ownBlock = some k → w.heap[k]? = w5.heap[k]?
 ke : ∀ x, x ∈ keysE E ↔ LeftK K y i x
theorem EmI.del (h : EmI w1 w b d x' s r' m v KM KM none E root) (y : Nat) : DeI w1 w w b d x' s r' m v KM y 0 E root :=
 ⟨h.tr, h.cb, fun _ _ => rfl, fun x => by rw [h.ke, LeftK.start]; exact ⟨fun h => h.elim id (fun h => by cases h), .inl⟩⟩
theorem DeI.next {w5 : World} {K : List Int} {y i : Nat} (h : DeI w1 w5 w b d x' s r' m v K y i E root) (lo : w1.heap.size ≤ b) (ob : ∀ k, v.ownBlock = some k → k ≠ b) (hn : K.Nodup) (hi : i < K.length) {k : Int} (hk : K[rotA K.length y i]? = some k) {w6 w7 : World} {q : Int} (hT : TrR w1 (v.ownBlock.toList ++ [m, b]) w6 d s 400 q (delE k E)) (hK : KeptL (v.ownBlock.toList ++ [m, b]) w w6) (h7 : w6.setCell ⟨b, 4, none⟩ (.int .i64 q) = w7) : DeI w1 w5 w7 b d x' s r' m v K y (i + 1) (delE k E) q := by
 have f : Frm (fun k => k = b) w6 w7 := by rw [← h7]; exact set_frm _
 refine ⟨hT.turn (by simp) lo f, ?_, fun j hj => ?_, fun x => ?_⟩
 ·rw [← h7, heap_setCell_same _ _ 4 _ _ _ ((hK b (by simp)).trans h.cb)]
  rfl
 ·exact (f.block j (hT.lt j (by simp [hj])) (ob j hj)).trans ((hK j (by simp [hj])).trans (h.rk j hj))
 ·rw [mem_delE, h.ke, LeftK.next hn hi hk]
theorem row_cell {w : World} {e : TypeId} {g n cap : Nat} {K : List Int} (h : w.ownsRow 0 e 1 (.slice (some ⟨g, 0, none⟩) n cap) K.length (K.map fun k => .int .u64 k)) (t : Nat) {k : Int} (hk : K[t]? = some k) : w.cell? ⟨g, t, none⟩ = some (.int .u64 k) := by
 have := h.cells (g := g) rfl t (.int .u64 k) (by rw [List.getElem?_map, hk]; rfl)
 rw [addr_add, Nat.zero_add] at this
 exact this
theorem row_cap {w : World} {e : TypeId} {va : Option Addr} {n cap m : Nat} {xs : List Value} (h : w.ownsRow 0 e 1 (.slice va n cap) m xs) (hm : 0 < m) : m ≤ cap ∧ cap ≤ maxLen := by
 rcases h.2 with ⟨h1, h2⟩ | ⟨g, c, cur, h1, h2, h3, h4, h5, h6⟩
 ·omega
 ·injection h1 with h1 h7 h8
  subst h8
  exact ⟨h4, h5⟩
theorem row_some {w : World} {e : TypeId} {va : Option Addr} {n cap m : Nat} {xs : List Value} (h : w.ownsRow 0 e 1 (.slice va n cap) m xs) (hm : 0 < m) : ∃ g, va = some ⟨g, 0, none⟩ ∧ (.slice va n cap : Value).ownBlock = some g := by
 rcases h.2 with ⟨h1, h2⟩ | ⟨g, c, cur, h1, _⟩
 ·omega
 ·injection h1 with h1
  exact ⟨g, h1, by rw [h1]; rfl⟩
end
set_option maxHeartbeats 6400000 in
set_option maxRecDepth 20000 in
theorem examples_yes11 (w : World) :
  Calls Tryz.prog 13 #[] w fun e w' => e = .returned (.bool true) ∧ Below w.heap.size w w' := by
 have NY := Lib.hid fun w => new_yes w 20 (by decide) (by decide)
 have FG := Lib.hid (fmt_good (DkS.fresh 20) rfl rfl (by decide) (by decide))
 obtain ⟨V, hV⟩ : ∃ V : ByteArray, (⟨#[102, 105, 118, 101]⟩ : ByteArray) = V := ⟨_, rfl⟩
 have HV := Lib.hid hV
 have hvv : V.toList == [102, 105, 118, 101] := by rw [← hV]; decide +kernel
 go_enter Tryz.func13, Tryz.ntmps13
 try simp only [List.append_eq, List.cons_append, List.nil_append]
 go_wp2_with fail
 refine (NY.out _).mono ?_
 rintro e w1 ⟨d, FD, rfl, hd, hb, hF⟩
 have HD := Lib.hid hd
 have HB := Lib.hid hb
 have HF := Lib.hid hF
 have pn := ptr_nilD ⟨d, 0, none⟩
 clear hd hb hF NY
 go_wp2_with fail
 refine (format_is w1 d (DkS.fresh 20) FD HD.out).mono ?_
 intro e w3 hp
 obtain ⟨v, rfl, s, FS, FD', rfl, hds, hf3, hn3, hs3⟩ := hp.1 FG.out.1
 have T0 : Hid (TrR w [] w3 d s 20 0 []) := by
  obtain ⟨g1, g2, g3, g4⟩ := FG.out
  refine Lib.hid ⟨HB.out.trans (hf3.below (fun k hk => HF.out k hk) HB.out.size), fun k => FD' k ∨ FS k, ⟨_, _, ⟨FD', FS, hds, fun _ => Iff.rfl⟩, g2, g3, g4, rfl⟩, fun k hk => ?_, fun k hk => by cases hk⟩
  have := HB.out.size
  rcases hk with hk | hk
  ·rcases hn3 k hk with h1 | h1
   ·exact HF.out k h1
   ·omega
  ·have := hs3 k hk; omega
 have pn2 := ptr_nilS ⟨s, 0, none⟩
 clear hp hds hf3 hn3 hs3 HD HB HF FG
 have PU : Hid (Calls Tryz.prog 16 #[.pointer (some ⟨s, 0, none⟩), .int .i64 0, .int .u64 5, .string V] w3 fun e w' => ∃ q, e = .returned (.tuple #[.int .i64 q, .int .i64 0]) ∧ TrR w [] w' d s 20 q [(5, V)] ∧ KeptL [] w3 w') := Lib.hid (by
  have := put_R T0.out 0 (by decide) (by simp) (by simp) 5 (by decide) V (by rw [← HV.out]; decide)
  exact this)
 go_wp2_with fail
 refine PU.out.mono ?_
 rintro e w4 ⟨q, rfl, hT, hKK⟩
 clear hKK
 have T1 := Lib.hid hT
 have GE : Hid (Calls Tryz.prog 22 #[.pointer (some ⟨s, 0, none⟩), .int .i64 q, .int .u64 5] w4 fun e w' => e = .returned (.tuple #[.string V, .bool true, .int .i64 0]) ∧ Below w4.heap.size w4 w') := Lib.hid (by
  have := get_R hT (by simp) 5 (by decide)
  rw [show getV 5 [(5, V)] = V from by simp [getV, getE], show getB 5 [(5, V)] = true from by simp [getB, getE]] at this
  exact this)
 clear hT PU T0
 go_wp2_with fail
 refine GE.out.mono ?_
 rintro e w5 ⟨rfl, b5⟩
 have T2 := Lib.hid (T1.out.below b5)
 clear b5 T1 GE
 go_wp2_with fail
 refine (getNil_R T2.out 5 (by decide)).mono ?_
 rintro e w6 ⟨rfl, b6⟩
 have T3 := Lib.hid (T2.out.below b6)
 clear b6 T2
 have DE : Hid (Calls Tryz.prog 18 #[.pointer (some ⟨s, 0, none⟩), .int .i64 q, .int .u64 5] w6 fun e w' => e = .returned (.tuple #[.int .i64 0, .bool true, .int .i64 0]) ∧ Below w.heap.size w w') := Lib.hid (by
  have := del_R T3.out 0 (by decide) (by simp) (by simp) 5 (by decide)
  rw [show getB 5 [(5, V)] = true from by simp [getB, getE]] at this
  refine this.mono ?_
  rintro e w' ⟨q2, rfl, hT, hKK⟩
  obtain rfl : q2 = 0 := root_nil hT (by simp [delE])
  exact ⟨rfl, hT.size⟩)
 go_wp2_with fail
 refine DE.out.mono ?_
 rintro e w7 ⟨rfl, b7⟩
 have HBB := Lib.hid b7
 clear b7 DE T3
 go_wp2_with fail
 go_ret
 exact ⟨rfl, HBB.out⟩
set_option maxHeartbeats 12800000 in
set_option maxRecDepth 20000 in
theorem treeEmpties_law (a : Option Addr) (len cap : Nat) (zs : List Int) (a1 : Int) (w : World) (hk : IsInts .i64 w a len cap zs) (v1 : (Lit.int .i64 a1).wf = true) :
  Calls Tryz.prog 6 #[.slice a len cap, .int .i64 a1] w fun e w' => e = .returned (.bool true) ∧ Below w.heap.size w w' := by
 have BG := Lib.hid (fun w => begins_is w 400 (by decide) (by decide))
 have KV := Lib.hid (bounds_i64 v1)
 have CELLS := Lib.hid (int_cellA hk)
 have hlenL := ints_len hk
 clear v1 hk
 go_enter Tryz.func6, Tryz.ntmps6
 try simp only [List.append_eq, List.cons_append, List.nil_append]
 go_wp2_with fail
 refine (examples_yes11 _).mono ?_
 rintro e w1 ⟨rfl, b1⟩
 have B1 := Lib.hid b1
 clear b1
 go_wp2_with fail
 refine (BG.out _).mono ?_
 rintro e w2 ⟨b, d, x', s, r', rfl, hcb, hlo, htr⟩
 have hmm : (Instr.makeMap 60 none).run Tryz.prog w2 = .ok (.map (some w2.heap.size)) (w2.alloc (.map #[] 0)) := by simp [Instr.makeMap]
 obtain ⟨m, hm⟩ : ∃ m, w2.heap.size = m := ⟨_, rfl⟩
 obtain ⟨w3, hw3⟩ : ∃ w3, w2.alloc (.map #[] 0) = w3 := ⟨_, rfl⟩
 have HI0 : Hid (EmI w1 w3 b d x' s r' m (.slice none 0 0) [] [] none [] 0) := by
  have hb3 : Below w2.heap.size w2 w3 := by rw [← hw3]; exact below_made _ _
  have hsz := htr.size.size
  have hbl := htr.lt b (by simp)
  refine Lib.hid ⟨(htr.more hb3 m (by omega) (by rw [← hw3, ← hm]; simp)), (hb3.block _ hbl).trans hcb, ⟨#[], 0, by rw [← hw3, ← hm]; exact heap_alloc_new _ _, rfl⟩, World.ownsRow_nil _ _ _ _, List.nodup_nil, fun x => ?_, fun k hk => (by cases hk), ⟨by omega, hlo, by omega⟩, fun k hk => (by cases hk)⟩
  simp [keysE]
 rw [hw3, hm] at hmm
 clear hcb hlo htr BG hw3 hm
 go_wp2_with fail
 go_loopw [8, 10, 11, 12] (fun v i _ _ wr => ∃ (j : Nat) (K : List Int) (E : List Ent) (root : Int) (va : Option Addr) (vc : Nat), j ≤ len ∧ j ≤ 50 ∧ i = .int .i64 (j : Int) ∧ v = .slice va K.length vc ∧ Hid (K.length ≤ j ∧ E.length ≤ j ∧ K = K) ∧ Hid (EmI w1 wr b d x' s r' m (.slice va K.length vc) K K none E root)) (fun _ i _ _ _ => 51 - (intOf i).toNat)
 case atStart => exact ⟨0, [], [], 0, none, 0, Nat.zero_le _, Nat.zero_le _, rfl, rfl, Lib.hid ⟨Nat.le_refl _, Nat.le_refl _, rfl⟩, HI0⟩
 case round =>
  obtain ⟨j, K, E, root, va, vc, hj1, hj2, rfl, rfl, HLN, HI⟩ := hrel
  by_cases hjl : j < len
  ·have hjli : (j : Int) < (len : Int) := by omega
   by_cases hlt : j < 50
   ·have hli : (j : Int) < 50 := by omega
    obtain ⟨x, z, hax, _, ⟨hz1, hz2⟩, CELL⟩ := CELLS.out j hjl
    subst hax
    have HJ0 : Hid (-9223372036854775808 ≤ (j : Int)) := Lib.hid (by omega)
    have HJ1 : Hid ((j : Int) ≤ 9223372036854775807) := Lib.hid (by omega)
    have HJL : Hid (j + 1 ≤ len ∧ j + 1 ≤ 50) := Lib.hid ⟨by omega, by omega⟩
    have HE5 : Hid (E.length < 2 ^ (5 + 1)) := Lib.hid (by have := HLN.out; omega)
    have HN5 : Hid (2 * E.length + 2 * 5 + 5 ≤ 400) := Lib.hid (by have := HLN.out; omega)
    have e4 : IntKind.i64.wrap ((j : Int) + 1) = ((j + 1 : Nat) : Int) := by rw [show (j : Int) + 1 = ((j + 1 : Nat) : Int) by omega]; exact IntWalk.i64_in _ (by omega)
    have TT := Lib.hid (And.intro (HI.out.tr.below (Below.refl _ _).drew) (show KeptL ((Value.slice va K.length vc).ownBlock.toList ++ [m, b]) wr wr.drew from fun _ _ => rfl))
    clear hj1 hj2 hjl hlt
    go_upto_region 12 with fail
    refine wp_region_held_drew (S := fun w' => Below w1.heap.size w1 w' ∧ w'.heap[b]? = some (.cells #[.pointer (some ⟨d, 0, none⟩), .pointer (some ⟨x', 0, none⟩), .pointer (some ⟨s, 0, none⟩), .pointer (some ⟨r', 0, none⟩), .int .i64 root] 39)) (by kernel_rfl) ⟨TT.out.1.size, HI.out.cb⟩ (fun hS => ?_)
    refine ht (i := 0) 38 (v := ?va0x1) rfl rfl (by kernel_rfl) (fun _ _ _ h => h) hS (by rfl) ?ha0x1 ?_
    case ha0x1 =>
     intro w9 s9
     clear s9
     go_simp
     try (with_reducible rfl)
    simp only [SL]
    refine ht (i := 1) 39 (v := ?va1x2) rfl rfl (by kernel_rfl) (fun _ _ _ h => h) hS (by rfl) ?ha1x2 ?_
    case ha1x2 =>
     intro w9 s9
     clear s9
     go_simp
     try (with_reducible rfl)
    simp only [SL]
    refine ht (i := 2) 40 (v := ?va2x3) rfl rfl (by kernel_rfl) (fun _ _ _ h => h) hS (by rfl) ?ha2x3 ?_
    case ha2x3 =>
     intro w9 s9
     clear s9
     go_simp
     try (with_reducible rfl)
    simp only [SL]
    refine ht (i := 3) 41 (v := ?va3x4) rfl rfl (by kernel_rfl) (fun _ _ _ h => h) hS (by rfl) ?ha3x4 ?_
    case ha3x4 =>
     intro w9 s9
     obtain ⟨q0, q1, q2, q3, q4, _⟩ := cells5 s9.2
     clear s9
     go_simp
     try (with_reducible rfl)
    simp only [SL]
    refine ht (i := 4) 42 (v := ?va4x5) rfl rfl (by kernel_rfl) (fun _ _ _ h => h) hS (by rfl) ?ha4x5 ?_
    case ha4x5 =>
     intro w9 s9
     clear s9
     go_simp
     try (with_reducible rfl)
    simp only [SL]
    refine ht (i := 5) 43 (v := ?va5x6) rfl rfl (by kernel_rfl) (fun _ _ _ h => h) hS (by rfl) ?ha5x6 ?_
    case ha5x6 =>
     intro w9 s9
     clear s9
     go_simp
     try (with_reducible rfl)
    simp only [SL]
    refine ht (i := 6) 44 (v := ?va6x7) rfl rfl (by kernel_rfl) (fun _ _ _ h => h) hS (by rfl) ?ha6x7 ?_
    case ha6x7 =>
     intro w9 s9
     clear s9
     go_simp
     try (with_reducible rfl)
    simp only [SL]
    refine ht (i := 7) 45 (v := ?va7x8) rfl rfl (by kernel_rfl) (fun _ _ _ h => h) hS (by rfl) ?ha7x8 ?_
    case ha7x8 =>
     intro w9 s9
     obtain ⟨q0, q1, q2, q3, q4, _⟩ := cells5 s9.2
     clear s9
     go_simp
     try (with_reducible rfl)
    simp only [SL]
    refine ht (i := 8) 46 (v := ?va8x9) rfl rfl (by kernel_rfl) (fun _ _ _ h => h) hS (by rfl) ?ha8x9 ?_
    case ha8x9 =>
     intro w9 s9
     clear s9
     go_simp
     try (with_reducible rfl)
    simp only [SL]
    refine ht (i := 9) 47 (v := ?va9x10) rfl rfl (by kernel_rfl) (fun _ _ _ h => h) hS (by rfl) ?ha9x10 ?_
    case ha9x10 =>
     intro w9 s9
     clear s9
     go_simp
     try (with_reducible rfl)
    simp only [SL]
    refine ht (i := 10) 48 (v := ?va10x11) rfl rfl (by kernel_rfl) (fun _ _ _ h => h) hS (by rfl) ?ha10x11 ?_
    case ha10x11 =>
     intro w9 s9
     clear s9
     go_simp
     try (with_reducible rfl)
    simp only [SL]
    refine ht (i := 11) 49 (v := ?va11x12) rfl rfl (by kernel_rfl) (fun _ _ _ h => h) hS (by rfl) ?ha11x12 ?_
    case ha11x12 =>
     intro w9 s9
     have ca := CELL.out w9 (chain B1.out s9.1)
     clear s9
     go_simp
     try (with_reducible rfl)
    simp only [SL]
    refine ht (i := 13) 51 (v := ?va13x13) rfl rfl (by kernel_rfl) (fun _ _ _ h => h) hS (by rfl) ?ha13x13 ?_
    case ha13x13 =>
     intro w9 s9
     clear s9
     go_simp
     try (with_reducible rfl)
    simp only [SL]
    refine held_step (i := 12) rfl (by kernel_rfl) (fun K hK => ?_)
    have HK := Lib.hid hK
    clear hK
    go_simp
    go_wp2_with fail
    refine (key_is _ z hz1 hz2).mono ?_
    rintro e w6 ⟨rfl, b6⟩
    refine HK.out _ _ ?_ ?_
    ·exact ⟨chain hS.1 b6, (b6.block _ (Array.getElem?_eq_some_iff.1 hS.2).1).trans hS.2⟩
    clear HK K
    try simp only [Act.put, SL]
    have hS' := And.intro (chain hS.1 b6) ((b6.block _ (Array.getElem?_eq_some_iff.1 hS.2).1).trans hS.2)
    clear hS
    have hS := hS'
    clear hS'
    have TTn := Lib.hid (And.intro (TT.out.1.below b6) (TT.out.2.trans (TT.out.1.kept b6)))
    clear TT b6
    have TT := TTn
    clear TTn
    refine held_step (i := 14) rfl (by kernel_rfl) (fun K hK => ?_)
    have HK := Lib.hid hK
    clear hK
    go_simp
    go_wp2_with fail
    refine (value_is _ (j : Int) HJ0.out HJ1.out).mono ?_
    rintro e w6 ⟨rfl, b6⟩
    refine HK.out _ _ ?_ ?_
    ·exact ⟨chain hS.1 b6, (b6.block _ (Array.getElem?_eq_some_iff.1 hS.2).1).trans hS.2⟩
    clear HK K
    try simp only [Act.put, SL]
    have hS' := And.intro (chain hS.1 b6) ((b6.block _ (Array.getElem?_eq_some_iff.1 hS.2).1).trans hS.2)
    clear hS
    have hS := hS'
    clear hS'
    have TTn := Lib.hid (And.intro (TT.out.1.below b6) (TT.out.2.trans (TT.out.1.kept b6)))
    clear TT b6
    have TT := TTn
    clear TTn
    refine held_step (i := 15) rfl (by kernel_rfl) (fun K hK => ?_)
    have HK := Lib.hid hK
    clear hK
    go_simp
    go_wp2_with fail
    refine (put_R TT.out.1 5 (by decide) HE5.out HN5.out _ (lawK_ok z) _ (lawV_size _)).mono ?_
    rintro e w6 ⟨q, rfl, hT, hK⟩
    refine HK.out _ _ ?_ ?_
    ·exact ⟨hT.size, (hK b (by simp)).trans hS.2⟩
    clear HK K
    try simp only [Act.put, SL]
    have hS' := And.intro hT.size ((hK b (by simp)).trans hS.2)
    clear hS
    have hS := hS'
    clear hS'
    have TTn := Lib.hid (And.intro hT (TT.out.2.trans hK))
    clear TT hT hK
    have TT := TTn
    clear TTn
    refine ht (i := 16) 37 (v := ?va16x14) rfl rfl (by kernel_rfl) (fun _ _ _ h => h) hS (by rfl) ?ha16x14 ?_
    case ha16x14 =>
     intro w9 s9
     clear s9
     go_simp
     try (with_reducible rfl)
    simp only [SL]
    refine ht (i := 17) 54 (v := ?va17x15) rfl rfl (by kernel_rfl) (fun _ _ _ h => h) hS (by rfl) ?ha17x15 ?_
    case ha17x15 =>
     intro w9 s9
     clear s9
     go_simp
     try (with_reducible rfl)
    simp only [SL]
    refine ht (i := 18) 55 (v := ?va18x16) rfl rfl (by kernel_rfl) (fun _ _ _ h => h) hS (by rfl) ?ha18x16 ?_
    case ha18x16 =>
     intro w9 s9
     clear s9
     go_simp
     try (with_reducible rfl)
    simp only [SL]
    refine ht (i := 19) 11 (v := ?va19x17) rfl rfl (by kernel_rfl) (fun _ _ _ h => h) hS (by rfl) ?ha19x17 ?_
    case ha19x17 =>
     intro w9 s9
     clear s9
     go_simp
     try (with_reducible rfl)
    simp only [SL]
    refine ht (i := 20) 12 (v := ?va20x18) rfl rfl (by kernel_rfl) (fun _ _ _ h => h) hS (by rfl) ?ha20x18 ?_
    case ha20x18 =>
     intro w9 s9
     clear s9
     go_simp
     try (with_reducible rfl)
    simp only [SL]
    refine wpAnyH_done (by kernel_rfl) ?_ _
    obtain ⟨_, _, _, _, p4, pf⟩ := cells5 hS.2
    have pf4 := pf 4
    obtain ⟨w7, hw7⟩ : ∃ w7, w6.setCell ⟨b, 4, none⟩ (.int .i64 q) = w7 := ⟨_, rfl⟩
    have OW7 := Lib.hid (HI.out.put TT.out.1 TT.out.2 hw7)
    clear TT hS HI
    go_upto_region 16 with fail
    try rw [hw7]
    clear hw7 p4 pf pf4
    have ca7 := CELL.out w7 (chain B1.out OW7.out.tr.size)
    go_wp2_with fail
    refine (key_is _ z hz1 hz2).mono ?_
    rintro e w8 ⟨rfl, b8⟩
    have OW8 := Lib.hid (OW7.out.below b8)
    clear b8 OW7 ca7
    have hlk := lookupW (P := Tryz.prog) Tryz.underlying60 Tryz.underlying28 OW8.out.mp (lawK z) (.bool false) (bool_zero Tryz.prog w8) false
    rw [setL_get, if_neg (by decide)] at hlk
    have ca8 := CELL.out w8 (chain B1.out OW8.out.tr.size)
    by_cases hkk : lawK z ∈ K
    ·rw [decide_eq_true hkk] at hlk
     have HKK := Lib.hid hkk
     have LEN : Hid ((if lawK z ∈ K then K else K ++ [lawK z]).length ≤ j + 1 ∧ (insE (lawK z) (lawV (j : Int)) E).length ≤ j + 1 ∧ (if lawK z ∈ K then K else K ++ [lawK z]) = (if lawK z ∈ K then K else K ++ [lawK z])) := Lib.hid ⟨by rw [if_pos hkk]; have := HLN.out; omega, by have := HLN.out; have := insE_len (lawK z) (lawV (j : Int)) E; omega, rfl⟩
     clear hkk
     go_wp2_with fail
     have OWa := OW8
     clear OW8 hlk
     go_wp2_with fail
     refine (key_is _ z hz1 hz2).mono ?_
     rintro e wb ⟨rfl, bb⟩
     have OWb := Lib.hid (OWa.out.below bb)
     clear bb OWa
     have ca := CELL.out wb (chain B1.out OWb.out.tr.size)
     obtain ⟨wc, hmu, hmp, _, _, hmf⟩ := updateWB (P := Tryz.prog) Tryz.underlying60 Tryz.underlying28 OWb.out.mp (lawK z) (.bool true)
     have FIN := Lib.hid (OWb.out.mapped hmp hmf)
     rw [if_pos HKK.out] at FIN LEN
     clear hmp hmf OWb ca
     go_wp2_with fail
     go_roundw
     case rel => exact ⟨j + 1, K, _, _, _, _, HJL.out.1, HJL.out.2, rfl, rfl, LEN, FIN⟩
     case measure => have := HJL.out; simp [intOf]; omega
    ·rw [decide_eq_false hkk] at hlk
     have HKK := Lib.hid hkk
     have LEN : Hid ((K ++ [lawK z]).length ≤ j + 1 ∧ (insE (lawK z) (lawV (j : Int)) E).length ≤ j + 1 ∧ (K ++ [lawK z]) = (K ++ [lawK z])) := Lib.hid ⟨by rw [List.length_append]; have := HLN.out; simp only [List.length_cons, List.length_nil]; omega, by have := HLN.out; have := insE_len (lawK z) (lawV (j : Int)) E; omega, rfl⟩
     clear hkk
     go_wp2_with fail
     refine (key_is _ z hz1 hz2).mono ?_
     rintro e w9 ⟨rfl, b9⟩
     have OW9 := Lib.hid (OW8.out.below b9)
     clear b9 OW8 hlk ca8
     obtain ⟨v, hv⟩ : ∃ v, Value.slice va K.length vc = v := ⟨_, rfl⟩
     rw [hv] at OW9 ⊢
     clear hv
     have hc1 : (w9.alloc (.cells #[.int .u64 (lawK z)] 28)).cell? ⟨w9.heap.size, 0, none⟩ = some (.int .u64 (lawK z)) := by rw [World.cell?_alloc_new]; rfl
     obtain ⟨i0, hi0, hz0, hs0, hb0⟩ := u64_info
     have OW9b := Lib.hid (OW9.out.below (below_made w9 (.cells #[.int .u64 (lawK z)] 28)))
     obtain ⟨v2, wa, kk, hap, hown, hgr, hob1, hob2⟩ := append_one Tryz.prog (w9.alloc (.cells #[.int .u64 (lawK z)] 28)) 59 59 28 i0 (.int .u64 0) Tryz.underlying59 hi0 hz0 hs0 hb0 rfl v K.length (K.map fun k => .int .u64 k) OW9b.out.row w9.heap.size (.int .u64 (lawK z)) hc1 rfl (by have := HLN.out; omega)
     have SHP := Lib.hid (row_shape hown)
     have OWa := Lib.hid (OW9.out.app HKK.out (lawK_ok z) (below_made w9 _) hown hgr hob1 hob2)
     have hcaa := CELL.out wa (chain B1.out OWa.out.tr.size)
     clear OW9b hown hgr hob1 hob2 OW9 hi0 hz0 hs0 hb0 hc1
     go_wp2_with (at_builtin; refine append_run rfl (.tmp 70) (.tmp 76) 59 rfl _ _ _ rfl rfl hap ?_)
     clear hap
     refine (key_is _ z hz1 hz2).mono ?_
     rintro e wb ⟨rfl, bb⟩
     have OWb := Lib.hid (OWa.out.below bb)
     clear bb OWa
     have ca := CELL.out wb (chain B1.out OWb.out.tr.size)
     obtain ⟨wc, hmu, hmp, _, _, hmf⟩ := updateWB (P := Tryz.prog) Tryz.underlying60 Tryz.underlying28 OWb.out.mp (lawK z) (.bool true)
     have FIN := Lib.hid (OWb.out.mapped hmp hmf)
     rw [if_neg HKK.out] at FIN
     obtain ⟨ua, uc, hsh⟩ := SHP.out
     have hsh2 : v2 = .slice ua (K ++ [lawK z]).length uc := by rw [List.length_append]; exact hsh
     rw [hsh2] at FIN
     have SHQ := Lib.hid hsh2
     clear hsh hsh2
     clear hmp hmf OWb ca
     go_wp2_with fail
     go_roundw
     case rel => exact ⟨j + 1, K ++ [lawK z], _, _, _, _, HJL.out.1, HJL.out.2, rfl, SHQ.out, LEN, FIN⟩
     case measure => have := HJL.out; simp [intOf]; omega
   ·have hli : ¬ (j : Int) < 50 := by omega
    clear hlt
    have HJ := Lib.hid (And.intro hj1 hj2)
    clear hj1 hj2 hjl
    go_upto_if 85 with fail
    go_cut [1] (fun v wx => (∃ q : Nat, v = .int .i64 (q : Int) ∧ (q : Int) ≤ 9223372036854775807) ∧ wr = wx)
    case first =>
     have hout := KV.out
     by_cases hneg : a1 < 0
     ·have e1 : IntKind.i64.wrap (a1 + 1) = a1 + 1 := IntWalk.i64_in _ (by omega)
      obtain ⟨q, hq⟩ : ∃ q : Nat, -(a1 + 1) = (q : Int) := ⟨(-(a1 + 1)).toNat, by omega⟩
      have e2 : IntKind.i64.wrap (-(a1 + 1)) = (q : Int) := by rw [hq]; exact IntWalk.i64_in _ (by omega)
      have hq2 := Lib.hid (show (q : Int) ≤ 9223372036854775807 by omega)
      clear hq
      clear hout
      go_wp2_with fail
      go_meet
      exact ⟨⟨_, rfl, hq2.out⟩, rfl⟩
     ·have hoe : a1 = ((a1.toNat : Nat) : Int) := by omega
      have hq2 := Lib.hid (show ((a1.toNat : Nat) : Int) ≤ 9223372036854775807 by omega)
      generalize a1.toNat = q at hoe hq2
      subst hoe
      clear hout
      have hneg' : ¬ (q : Int) < 0 := by omega
      go_wp2_with fail
      go_meet
      exact ⟨⟨_, rfl, hq2.out⟩, rfl⟩
    case rest =>
     obtain ⟨⟨y, rfl, hy⟩, rfl⟩ := hcut
     have HY := Lib.hid hy
     have HD0 := Lib.hid (HI.out.del y)
     have HROW := Lib.hid HI.out.row
     have HND := Lib.hid HI.out.nd
     have LOB := Lib.hid HI.out.lo.2.1
     have KBB := Lib.hid HI.out.kb
     have OBB := Lib.hid (fun k hk => (HI.out.ob k hk).2.2)
     obtain ⟨w5, hw5⟩ : ∃ w5, w5 = wr := ⟨_, rfl⟩
     rw [← hw5] at HD0 HROW HI ⊢
     have KL50 : Hid (K.length ≤ 50) := Lib.hid (by have := HLN.out; have := HJ.out; omega)
     have HE0 : Hid (E.length ≤ 50) := Lib.hid (by have := HLN.out; have := HJ.out; omega)
     have hvc : Hid (0 < K.length → K.length ≤ vc ∧ vc ≤ maxLen) := Lib.hid (row_cap HROW.out)
     clear hw5 hy HI HLN
     go_wp2_with fail
     go_loopw [13, 14, 15, 16] (fun i _ _ _ wr => ∃ (n : Nat) (E : List Ent) (root : Int), n ≤ K.length ∧ i = .int .i64 (n : Int) ∧ Hid (E.length ≤ 50) ∧ Hid (DeI w1 w5 wr b d x' s r' m (.slice va K.length vc) K y n E root)) (fun i _ _ _ _ => 51 - (intOf i).toNat)
     case atStart => exact ⟨0, E, root, Nat.zero_le _, rfl, HE0, HD0⟩
     case round =>
      clear HD0 HE0
      obtain ⟨i, E2, root2, hi, rfl, HE, HD⟩ := hrel
      by_cases hlt : i < K.length
      ·have hli : (i : Int) < (K.length : Int) := by omega
       obtain ⟨g, rfl, hob⟩ := row_some HROW.out (by omega)
       have HOB := Lib.hid hob
       have HIN := Lib.hid hlt
       have hcap := hvc.out (by omega)
       obtain ⟨t, ht⟩ : ∃ t, rotA K.length y i = t := ⟨_, rfl⟩
       have htl : t < K.length := by rw [← ht]; exact rotA_lt (by omega)
       obtain ⟨kk, hkk⟩ : ∃ kk, K[t]? = some kk := ⟨_, List.getElem?_eq_getElem htl⟩
       have HKK : Hid (K[rotA K.length y i]? = some kk) := Lib.hid (by rw [ht]; exact hkk)
       have KOK := Lib.hid (KBB.out kk (List.mem_of_getElem? hkk))
       have GB : Hid (getB kk E2 = true) := Lib.hid (getB_iff.2 ((HD.out.ke kk).2 ⟨i, Nat.le_refl _, hlt, HKK.out⟩))
       have ROWC : Hid (∀ w' : World, w'.heap[g]? = wr.heap[g]? → w'.cell? ⟨g, t, none⟩ = some (.int .u64 kk)) := Lib.hid (fun w' hw => by rw [cell_same (hw.trans (HD.out.rk g HOB.out))]; exact row_cell HROW.out t hkk)
       obtain ⟨q, hq⟩ : ∃ q, y % K.length = q := ⟨_, rfl⟩
       have hqn : q < K.length := by rw [← hq]; exact Nat.mod_lt _ (by omega)
       have hrot : (q + i) % K.length = t := by rw [← hq]; exact ht
       have k50 := KL50.out
       have HE5 : Hid (E2.length < 2 ^ (5 + 1)) := Lib.hid (by have := HE.out; omega)
       have HN5 : Hid (2 * E2.length + 2 * 5 + 5 ≤ 400) := Lib.hid (by have := HE.out; omega)
       have TT := Lib.hid (And.intro (HD.out.tr.below (Below.refl _ _).drew) (show KeptL ((Value.slice (some ⟨g, 0, none⟩) K.length vc).ownBlock.toList ++ [m, b]) wr wr.drew from fun _ _ => rfl))
       obtain ⟨n, hn⟩ : ∃ n, K.length = n := ⟨_, rfl⟩
       have HNN := Lib.hid hn
       rw [hn] at htl hqn hrot hli hcap hq k50
       have hnz : ((n : Int) == 0) = false := by simp; omega
       have hnp : (0 : Int) < (n : Int) := by omega
       have hn0 : (n = 0) = False := eq_false (by omega)
       have r1 : (y : Int).tmod (n : Int) = (q : Int) := by rw [Int.tmod_eq_emod_of_nonneg (by omega), ← hq]; rfl
       have r2 : (y : Int) % (n : Int) = (q : Int) := by rw [← hq]; rfl
       obtain ⟨u, hu⟩ : ∃ u, q + i = u := ⟨_, rfl⟩
       have eu : IntKind.i64.wrap ((q : Int) + (i : Int)) = (u : Int) := by rw [show (q : Int) + (i : Int) = (u : Int) by omega]; exact IntWalk.i64_in _ (by omega)
       rw [hu] at hrot
       have r3 : (u : Int).tmod (n : Int) = (t : Int) := by rw [Int.tmod_eq_emod_of_nonneg (by omega), ← hrot]; rfl
       have r4 : (u : Int) % (n : Int) = (t : Int) := by rw [← hrot]; rfl
       have htn : (t : Int) < (n : Int) := by omega
       have e4 : IntKind.i64.wrap ((i : Int) + 1) = ((i + 1 : Nat) : Int) := by rw [show (i : Int) + 1 = ((i + 1 : Nat) : Int) by omega]; exact IntWalk.i64_in _ (by omega)
       have hnc : n ≤ vc := hcap.1
       clear ht hkk hq hqn hrot hu hi hlt htl hob hcap k50
       rw [hn]
       clear hn
       go_upto_region 24 with fail
       refine wp_region_held_drew (S := fun w' => Below w1.heap.size w1 w' ∧ w'.heap[b]? = some (.cells #[.pointer (some ⟨d, 0, none⟩), .pointer (some ⟨x', 0, none⟩), .pointer (some ⟨s, 0, none⟩), .pointer (some ⟨r', 0, none⟩), .int .i64 root2] 39) ∧ w'.heap[g]? = wr.heap[g]?) (by kernel_rfl) ⟨TT.out.1.size, HD.out.cb, rfl⟩ (fun hS => ?_)
       refine ht (i := 0) 96 (v := ?vc0x1) rfl rfl (by kernel_rfl) (fun _ _ _ h => h) hS (by rfl) ?hc0x1 ?_
       case hc0x1 =>
        intro w9 s9
        clear s9
        go_simp
        try (with_reducible rfl)
       simp only [SL]
       refine ht (i := 1) 97 (v := ?vc1x2) rfl rfl (by kernel_rfl) (fun _ _ _ h => h) hS (by rfl) ?hc1x2 ?_
       case hc1x2 =>
        intro w9 s9
        clear s9
        go_simp
        try (with_reducible rfl)
       simp only [SL]
       refine ht (i := 2) 98 (v := ?vc2x3) rfl rfl (by kernel_rfl) (fun _ _ _ h => h) hS (by rfl) ?hc2x3 ?_
       case hc2x3 =>
        intro w9 s9
        clear s9
        go_simp
        try (with_reducible rfl)
       simp only [SL]
       refine ht (i := 3) 99 (v := ?vc3x4) rfl rfl (by kernel_rfl) (fun _ _ _ h => h) hS (by rfl) ?hc3x4 ?_
       case hc3x4 =>
        intro w9 s9
        obtain ⟨q0, q1, q2, q3, q4, _⟩ := cells5 s9.2.1
        clear s9
        go_simp
        try (with_reducible rfl)
       simp only [SL]
       refine ht (i := 4) 100 (v := ?vc4x5) rfl rfl (by kernel_rfl) (fun _ _ _ h => h) hS (by rfl) ?hc4x5 ?_
       case hc4x5 =>
        intro w9 s9
        clear s9
        go_simp
        try (with_reducible rfl)
       simp only [SL]
       refine ht (i := 5) 101 (v := ?vc5x6) rfl rfl (by kernel_rfl) (fun _ _ _ h => h) hS (by rfl) ?hc5x6 ?_
       case hc5x6 =>
        intro w9 s9
        clear s9
        go_simp
        try (with_reducible rfl)
       simp only [SL]
       refine ht (i := 6) 102 (v := ?vc6x7) rfl rfl (by kernel_rfl) (fun _ _ _ h => h) hS (by rfl) ?hc6x7 ?_
       case hc6x7 =>
        intro w9 s9
        clear s9
        go_simp
        try (with_reducible rfl)
       simp only [SL]
       refine ht (i := 7) 103 (v := ?vc7x8) rfl rfl (by kernel_rfl) (fun _ _ _ h => h) hS (by rfl) ?hc7x8 ?_
       case hc7x8 =>
        intro w9 s9
        obtain ⟨q0, q1, q2, q3, q4, _⟩ := cells5 s9.2.1
        clear s9
        go_simp
        try (with_reducible rfl)
       simp only [SL]
       refine ht (i := 8) 104 (v := ?vc8x9) rfl rfl (by kernel_rfl) (fun _ _ _ h => h) hS (by rfl) ?hc8x9 ?_
       case hc8x9 =>
        intro w9 s9
        clear s9
        go_simp
        try (with_reducible rfl)
       simp only [SL]
       refine ht (i := 9) 105 (v := ?vc9x10) rfl rfl (by kernel_rfl) (fun _ _ _ h => h) hS (by rfl) ?hc9x10 ?_
       case hc9x10 =>
        intro w9 s9
        clear s9
        go_simp
        try (with_reducible rfl)
       simp only [SL]
       refine ht (i := 10) 106 (v := ?vc10x11) rfl rfl (by kernel_rfl) (fun _ _ _ h => h) hS (by rfl) ?hc10x11 ?_
       case hc10x11 =>
        intro w9 s9
        clear s9
        go_simp
        try (with_reducible rfl)
       simp only [SL]
       refine ht (i := 11) 107 (v := ?vc11x12) rfl rfl (by kernel_rfl) (fun _ _ _ h => h) hS (by rfl) ?hc11x12 ?_
       case hc11x12 =>
        intro w9 s9
        clear s9
        go_simp
        try (with_reducible rfl)
       simp only [SL]
       refine ht (i := 12) 108 (v := ?vc12x13) rfl rfl (by kernel_rfl) (fun _ _ _ h => h) hS (by rfl) ?hc12x13 ?_
       case hc12x13 =>
        intro w9 s9
        clear s9
        go_simp
        try (with_reducible rfl)
       simp only [SL]
       refine ht (i := 13) 109 (v := ?vc13x14) rfl rfl (by kernel_rfl) (fun _ _ _ h => h) hS (by rfl) ?hc13x14 ?_
       case hc13x14 =>
        intro w9 s9
        clear s9
        go_simp
        try (with_reducible rfl)
       simp only [SL]
       refine ht (i := 14) 110 (v := ?vc14x15) rfl rfl (by kernel_rfl) (fun _ _ _ h => h) hS (by rfl) ?hc14x15 ?_
       case hc14x15 =>
        intro w9 s9
        clear s9
        go_simp
        try (with_reducible rfl)
       simp only [SL]
       refine ht (i := 15) 111 (v := ?vc15x16) rfl rfl (by kernel_rfl) (fun _ _ _ h => h) hS (by rfl) ?hc15x16 ?_
       case hc15x16 =>
        intro w9 s9
        clear s9
        go_simp
        try (with_reducible rfl)
       simp only [SL]
       refine ht (i := 16) 112 (v := ?vc16x17) rfl rfl (by kernel_rfl) (fun _ _ _ h => h) hS (by rfl) ?hc16x17 ?_
       case hc16x17 =>
        intro w9 s9
        clear s9
        go_simp
        try (with_reducible rfl)
       simp only [SL]
       refine ht (i := 17) 113 (v := ?vc17x18) rfl rfl (by kernel_rfl) (fun _ _ _ h => h) hS (by rfl) ?hc17x18 ?_
       case hc17x18 =>
        intro w9 s9
        clear s9
        go_simp
        try (with_reducible rfl)
       simp only [SL]
       refine ht (i := 18) 114 (v := ?vc18x19) rfl rfl (by kernel_rfl) (fun _ _ _ h => h) hS (by rfl) ?hc18x19 ?_
       case hc18x19 =>
        intro w9 s9
        clear s9
        go_simp
        try (with_reducible rfl)
       simp only [SL]
       refine ht (i := 19) 115 (v := ?vc19x20) rfl rfl (by kernel_rfl) (fun _ _ _ h => h) hS (by rfl) ?hc19x20 ?_
       case hc19x20 =>
        intro w9 s9
        have ca := ROWC.out w9 s9.2.2
        clear s9
        go_simp
        try (with_reducible rfl)
       simp only [SL]
       refine held_step (i := 20) rfl (by kernel_rfl) (fun K hK => ?_)
       have HK := Lib.hid hK
       clear hK
       go_simp
       go_wp2_with fail
       refine (del_R TT.out.1 5 (by decide) HE5.out HN5.out _ KOK.out).mono ?_
       rw [GB.out]
       rintro e w6 ⟨q2, rfl, hT, hK⟩
       refine HK.out _ _ ?_ ?_
       ·exact ⟨hT.size, (hK b (by simp)).trans hS.2.1, (hK g (by simp [HOB.out])).trans hS.2.2⟩
       clear HK K
       try simp only [Act.put, SL]
       have hS' := And.intro hT.size (And.intro ((hK b (by simp)).trans hS.2.1) ((hK g (by simp [HOB.out])).trans hS.2.2))
       clear hS
       have hS := hS'
       clear hS'
       have TTn := Lib.hid (And.intro hT (TT.out.2.trans hK))
       clear TT hT hK
       have TT := TTn
       clear TTn
       refine ht (i := 21) 95 (v := ?vc21x21) rfl rfl (by kernel_rfl) (fun _ _ _ h => h) hS (by rfl) ?hc21x21 ?_
       case hc21x21 =>
        intro w9 s9
        clear s9
        go_simp
        try (with_reducible rfl)
       simp only [SL]
       refine ht (i := 22) 117 (v := ?vc22x22) rfl rfl (by kernel_rfl) (fun _ _ _ h => h) hS (by rfl) ?hc22x22 ?_
       case hc22x22 =>
        intro w9 s9
        clear s9
        go_simp
        try (with_reducible rfl)
       simp only [SL]
       refine ht (i := 23) 118 (v := ?vc23x23) rfl rfl (by kernel_rfl) (fun _ _ _ h => h) hS (by rfl) ?hc23x23 ?_
       case hc23x23 =>
        intro w9 s9
        clear s9
        go_simp
        try (with_reducible rfl)
       simp only [SL]
       refine ht (i := 24) 119 (v := ?vc24x24) rfl rfl (by kernel_rfl) (fun _ _ _ h => h) hS (by rfl) ?hc24x24 ?_
       case hc24x24 =>
        intro w9 s9
        clear s9
        go_simp
        try (with_reducible rfl)
       simp only [SL]
       refine ht (i := 25) 14 (v := ?vc25x25) rfl rfl (by kernel_rfl) (fun _ _ _ h => h) hS (by rfl) ?hc25x25 ?_
       case hc25x25 =>
        intro w9 s9
        clear s9
        go_simp
        try (with_reducible rfl)
       simp only [SL]
       refine ht (i := 26) 15 (v := ?vc26x26) rfl rfl (by kernel_rfl) (fun _ _ _ h => h) hS (by rfl) ?hc26x26 ?_
       case hc26x26 =>
        intro w9 s9
        clear s9
        go_simp
        try (with_reducible rfl)
       simp only [SL]
       refine ht (i := 27) 16 (v := ?vc27x27) rfl rfl (by kernel_rfl) (fun _ _ _ h => h) hS (by rfl) ?hc27x27 ?_
       case hc27x27 =>
        intro w9 s9
        clear s9
        go_simp
        try (with_reducible rfl)
       simp only [SL]
       refine wpAnyH_done (by kernel_rfl) ?_ _
       obtain ⟨_, _, _, _, p4, pf⟩ := cells5 hS.2.1
       have pf4 := pf 4
       obtain ⟨w7, hw7⟩ : ∃ w7, w6.setCell ⟨b, 4, none⟩ (.int .i64 q2) = w7 := ⟨_, rfl⟩
       have FIN := Lib.hid (HD.out.next LOB.out OBB.out HND.out HIN.out HKK.out TT.out.1 TT.out.2 hw7)
       have LEN : Hid ((delE kk E2).length ≤ 50) := Lib.hid (Nat.le_trans (delE_len _ _) HE.out)
       clear TT hS HD
       go_wp2_with fail
       try rw [hw7]
       try clear hw7
       go_roundw
       case rel =>
        have hnn := HNN.out
        subst hnn
        exact ⟨i + 1, _, _, HIN.out, rfl, LEN, FIN⟩
       case measure => have := HIN.out; have := KL50.out; simp [intOf]; omega
      ·have hli : ¬ (i : Int) < (K.length : Int) := by omega
       have hE : E2 = [] := keysE_nil fun x hx => LeftK.done (by omega) x ((HD.out.ke x).1 hx)
       subst hE
       have hr0 : root2 = 0 := root_nil HD.out.tr
       subst hr0
       obtain ⟨c, _, hc0, LF⟩ := left_R HD.out.tr
       rw [hc0 rfl] at LF
       have LFH := Lib.hid LF
       have SZ := Lib.hid HD.out.tr.size
       obtain ⟨q0, q1, q2, q3, q4, _⟩ := cells5 HD.out.cb
       have HDH := HD
       clear HD hc0 LF hlt hi
       go_wp2_with fail
       refine LFH.out.mono ?_
       rintro e w9 ⟨rfl, b9⟩
       have BF := Lib.hid (chain B1.out (chain SZ.out b9))
       clear b9 LFH
       go_wp2_with fail
       go_ret
       exact ⟨rfl, BF.out⟩
  ·have hjli : ¬ (j : Int) < (len : Int) := by omega
   have HJ := Lib.hid (And.intro hj1 hj2)
   clear hj1 hj2 hjl
   go_upto_if 85 with fail
   go_cut [1] (fun v wx => (∃ q : Nat, v = .int .i64 (q : Int) ∧ (q : Int) ≤ 9223372036854775807) ∧ wr = wx)
   case first =>
    have hout := KV.out
    by_cases hneg : a1 < 0
    ·have e1 : IntKind.i64.wrap (a1 + 1) = a1 + 1 := IntWalk.i64_in _ (by omega)
     obtain ⟨q, hq⟩ : ∃ q : Nat, -(a1 + 1) = (q : Int) := ⟨(-(a1 + 1)).toNat, by omega⟩
     have e2 : IntKind.i64.wrap (-(a1 + 1)) = (q : Int) := by rw [hq]; exact IntWalk.i64_in _ (by omega)
     have hq2 := Lib.hid (show (q : Int) ≤ 9223372036854775807 by omega)
     clear hq
     clear hout
     go_wp2_with fail
     go_meet
     exact ⟨⟨_, rfl, hq2.out⟩, rfl⟩
    ·have hoe : a1 = ((a1.toNat : Nat) : Int) := by omega
     have hq2 := Lib.hid (show ((a1.toNat : Nat) : Int) ≤ 9223372036854775807 by omega)
     generalize a1.toNat = q at hoe hq2
     subst hoe
     clear hout
     have hneg' : ¬ (q : Int) < 0 := by omega
     go_wp2_with fail
     go_meet
     exact ⟨⟨_, rfl, hq2.out⟩, rfl⟩
   case rest =>
    obtain ⟨⟨y, rfl, hy⟩, rfl⟩ := hcut
    have HY := Lib.hid hy
    have HD0 := Lib.hid (HI.out.del y)
    have HROW := Lib.hid HI.out.row
    have HND := Lib.hid HI.out.nd
    have LOB := Lib.hid HI.out.lo.2.1
    have KBB := Lib.hid HI.out.kb
    have OBB := Lib.hid (fun k hk => (HI.out.ob k hk).2.2)
    obtain ⟨w5, hw5⟩ : ∃ w5, w5 = wr := ⟨_, rfl⟩
    rw [← hw5] at HD0 HROW HI ⊢
    have KL50 : Hid (K.length ≤ 50) := Lib.hid (by have := HLN.out; have := HJ.out; omega)
    have HE0 : Hid (E.length ≤ 50) := Lib.hid (by have := HLN.out; have := HJ.out; omega)
    have hvc : Hid (0 < K.length → K.length ≤ vc ∧ vc ≤ maxLen) := Lib.hid (row_cap HROW.out)
    clear hw5 hy HI HLN
    go_wp2_with fail
    go_loopw [13, 14, 15, 16] (fun i _ _ _ wr => ∃ (n : Nat) (E : List Ent) (root : Int), n ≤ K.length ∧ i = .int .i64 (n : Int) ∧ Hid (E.length ≤ 50) ∧ Hid (DeI w1 w5 wr b d x' s r' m (.slice va K.length vc) K y n E root)) (fun i _ _ _ _ => 51 - (intOf i).toNat)
    case atStart => exact ⟨0, E, root, Nat.zero_le _, rfl, HE0, HD0⟩
    case round =>
     clear HD0 HE0
     obtain ⟨i, E2, root2, hi, rfl, HE, HD⟩ := hrel
     by_cases hlt : i < K.length
     ·have hli : (i : Int) < (K.length : Int) := by omega
      obtain ⟨g, rfl, hob⟩ := row_some HROW.out (by omega)
      have HOB := Lib.hid hob
      have HIN := Lib.hid hlt
      have hcap := hvc.out (by omega)
      obtain ⟨t, ht⟩ : ∃ t, rotA K.length y i = t := ⟨_, rfl⟩
      have htl : t < K.length := by rw [← ht]; exact rotA_lt (by omega)
      obtain ⟨kk, hkk⟩ : ∃ kk, K[t]? = some kk := ⟨_, List.getElem?_eq_getElem htl⟩
      have HKK : Hid (K[rotA K.length y i]? = some kk) := Lib.hid (by rw [ht]; exact hkk)
      have KOK := Lib.hid (KBB.out kk (List.mem_of_getElem? hkk))
      have GB : Hid (getB kk E2 = true) := Lib.hid (getB_iff.2 ((HD.out.ke kk).2 ⟨i, Nat.le_refl _, hlt, HKK.out⟩))
      have ROWC : Hid (∀ w' : World, w'.heap[g]? = wr.heap[g]? → w'.cell? ⟨g, t, none⟩ = some (.int .u64 kk)) := Lib.hid (fun w' hw => by rw [cell_same (hw.trans (HD.out.rk g HOB.out))]; exact row_cell HROW.out t hkk)
      obtain ⟨q, hq⟩ : ∃ q, y % K.length = q := ⟨_, rfl⟩
      have hqn : q < K.length := by rw [← hq]; exact Nat.mod_lt _ (by omega)
      have hrot : (q + i) % K.length = t := by rw [← hq]; exact ht
      have k50 := KL50.out
      have HE5 : Hid (E2.length < 2 ^ (5 + 1)) := Lib.hid (by have := HE.out; omega)
      have HN5 : Hid (2 * E2.length + 2 * 5 + 5 ≤ 400) := Lib.hid (by have := HE.out; omega)
      have TT := Lib.hid (And.intro (HD.out.tr.below (Below.refl _ _).drew) (show KeptL ((Value.slice (some ⟨g, 0, none⟩) K.length vc).ownBlock.toList ++ [m, b]) wr wr.drew from fun _ _ => rfl))
      obtain ⟨n, hn⟩ : ∃ n, K.length = n := ⟨_, rfl⟩
      have HNN := Lib.hid hn
      rw [hn] at htl hqn hrot hli hcap hq k50
      have hnz : ((n : Int) == 0) = false := by simp; omega
      have hnp : (0 : Int) < (n : Int) := by omega
      have hn0 : (n = 0) = False := eq_false (by omega)
      have r1 : (y : Int).tmod (n : Int) = (q : Int) := by rw [Int.tmod_eq_emod_of_nonneg (by omega), ← hq]; rfl
      have r2 : (y : Int) % (n : Int) = (q : Int) := by rw [← hq]; rfl
      obtain ⟨u, hu⟩ : ∃ u, q + i = u := ⟨_, rfl⟩
      have eu : IntKind.i64.wrap ((q : Int) + (i : Int)) = (u : Int) := by rw [show (q : Int) + (i : Int) = (u : Int) by omega]; exact IntWalk.i64_in _ (by omega)
      rw [hu] at hrot
      have r3 : (u : Int).tmod (n : Int) = (t : Int) := by rw [Int.tmod_eq_emod_of_nonneg (by omega), ← hrot]; rfl
      have r4 : (u : Int) % (n : Int) = (t : Int) := by rw [← hrot]; rfl
      have htn : (t : Int) < (n : Int) := by omega
      have e4 : IntKind.i64.wrap ((i : Int) + 1) = ((i + 1 : Nat) : Int) := by rw [show (i : Int) + 1 = ((i + 1 : Nat) : Int) by omega]; exact IntWalk.i64_in _ (by omega)
      have hnc : n ≤ vc := hcap.1
      clear ht hkk hq hqn hrot hu hi hlt htl hob hcap k50
      rw [hn]
      clear hn
      go_upto_region 24 with fail
      refine wp_region_held_drew (S := fun w' => Below w1.heap.size w1 w' ∧ w'.heap[b]? = some (.cells #[.pointer (some ⟨d, 0, none⟩), .pointer (some ⟨x', 0, none⟩), .pointer (some ⟨s, 0, none⟩), .pointer (some ⟨r', 0, none⟩), .int .i64 root2] 39) ∧ w'.heap[g]? = wr.heap[g]?) (by kernel_rfl) ⟨TT.out.1.size, HD.out.cb, rfl⟩ (fun hS => ?_)
      refine ht (i := 0) 96 (v := ?vd0x1) rfl rfl (by kernel_rfl) (fun _ _ _ h => h) hS (by rfl) ?hd0x1 ?_
      case hd0x1 =>
       intro w9 s9
       clear s9
       go_simp
       try (with_reducible rfl)
      simp only [SL]
      refine ht (i := 1) 97 (v := ?vd1x2) rfl rfl (by kernel_rfl) (fun _ _ _ h => h) hS (by rfl) ?hd1x2 ?_
      case hd1x2 =>
       intro w9 s9
       clear s9
       go_simp
       try (with_reducible rfl)
      simp only [SL]
      refine ht (i := 2) 98 (v := ?vd2x3) rfl rfl (by kernel_rfl) (fun _ _ _ h => h) hS (by rfl) ?hd2x3 ?_
      case hd2x3 =>
       intro w9 s9
       clear s9
       go_simp
       try (with_reducible rfl)
      simp only [SL]
      refine ht (i := 3) 99 (v := ?vd3x4) rfl rfl (by kernel_rfl) (fun _ _ _ h => h) hS (by rfl) ?hd3x4 ?_
      case hd3x4 =>
       intro w9 s9
       obtain ⟨q0, q1, q2, q3, q4, _⟩ := cells5 s9.2.1
       clear s9
       go_simp
       try (with_reducible rfl)
      simp only [SL]
      refine ht (i := 4) 100 (v := ?vd4x5) rfl rfl (by kernel_rfl) (fun _ _ _ h => h) hS (by rfl) ?hd4x5 ?_
      case hd4x5 =>
       intro w9 s9
       clear s9
       go_simp
       try (with_reducible rfl)
      simp only [SL]
      refine ht (i := 5) 101 (v := ?vd5x6) rfl rfl (by kernel_rfl) (fun _ _ _ h => h) hS (by rfl) ?hd5x6 ?_
      case hd5x6 =>
       intro w9 s9
       clear s9
       go_simp
       try (with_reducible rfl)
      simp only [SL]
      refine ht (i := 6) 102 (v := ?vd6x7) rfl rfl (by kernel_rfl) (fun _ _ _ h => h) hS (by rfl) ?hd6x7 ?_
      case hd6x7 =>
       intro w9 s9
       clear s9
       go_simp
       try (with_reducible rfl)
      simp only [SL]
      refine ht (i := 7) 103 (v := ?vd7x8) rfl rfl (by kernel_rfl) (fun _ _ _ h => h) hS (by rfl) ?hd7x8 ?_
      case hd7x8 =>
       intro w9 s9
       obtain ⟨q0, q1, q2, q3, q4, _⟩ := cells5 s9.2.1
       clear s9
       go_simp
       try (with_reducible rfl)
      simp only [SL]
      refine ht (i := 8) 104 (v := ?vd8x9) rfl rfl (by kernel_rfl) (fun _ _ _ h => h) hS (by rfl) ?hd8x9 ?_
      case hd8x9 =>
       intro w9 s9
       clear s9
       go_simp
       try (with_reducible rfl)
      simp only [SL]
      refine ht (i := 9) 105 (v := ?vd9x10) rfl rfl (by kernel_rfl) (fun _ _ _ h => h) hS (by rfl) ?hd9x10 ?_
      case hd9x10 =>
       intro w9 s9
       clear s9
       go_simp
       try (with_reducible rfl)
      simp only [SL]
      refine ht (i := 10) 106 (v := ?vd10x11) rfl rfl (by kernel_rfl) (fun _ _ _ h => h) hS (by rfl) ?hd10x11 ?_
      case hd10x11 =>
       intro w9 s9
       clear s9
       go_simp
       try (with_reducible rfl)
      simp only [SL]
      refine ht (i := 11) 107 (v := ?vd11x12) rfl rfl (by kernel_rfl) (fun _ _ _ h => h) hS (by rfl) ?hd11x12 ?_
      case hd11x12 =>
       intro w9 s9
       clear s9
       go_simp
       try (with_reducible rfl)
      simp only [SL]
      refine ht (i := 12) 108 (v := ?vd12x13) rfl rfl (by kernel_rfl) (fun _ _ _ h => h) hS (by rfl) ?hd12x13 ?_
      case hd12x13 =>
       intro w9 s9
       clear s9
       go_simp
       try (with_reducible rfl)
      simp only [SL]
      refine ht (i := 13) 109 (v := ?vd13x14) rfl rfl (by kernel_rfl) (fun _ _ _ h => h) hS (by rfl) ?hd13x14 ?_
      case hd13x14 =>
       intro w9 s9
       clear s9
       go_simp
       try (with_reducible rfl)
      simp only [SL]
      refine ht (i := 14) 110 (v := ?vd14x15) rfl rfl (by kernel_rfl) (fun _ _ _ h => h) hS (by rfl) ?hd14x15 ?_
      case hd14x15 =>
       intro w9 s9
       clear s9
       go_simp
       try (with_reducible rfl)
      simp only [SL]
      refine ht (i := 15) 111 (v := ?vd15x16) rfl rfl (by kernel_rfl) (fun _ _ _ h => h) hS (by rfl) ?hd15x16 ?_
      case hd15x16 =>
       intro w9 s9
       clear s9
       go_simp
       try (with_reducible rfl)
      simp only [SL]
      refine ht (i := 16) 112 (v := ?vd16x17) rfl rfl (by kernel_rfl) (fun _ _ _ h => h) hS (by rfl) ?hd16x17 ?_
      case hd16x17 =>
       intro w9 s9
       clear s9
       go_simp
       try (with_reducible rfl)
      simp only [SL]
      refine ht (i := 17) 113 (v := ?vd17x18) rfl rfl (by kernel_rfl) (fun _ _ _ h => h) hS (by rfl) ?hd17x18 ?_
      case hd17x18 =>
       intro w9 s9
       clear s9
       go_simp
       try (with_reducible rfl)
      simp only [SL]
      refine ht (i := 18) 114 (v := ?vd18x19) rfl rfl (by kernel_rfl) (fun _ _ _ h => h) hS (by rfl) ?hd18x19 ?_
      case hd18x19 =>
       intro w9 s9
       clear s9
       go_simp
       try (with_reducible rfl)
      simp only [SL]
      refine ht (i := 19) 115 (v := ?vd19x20) rfl rfl (by kernel_rfl) (fun _ _ _ h => h) hS (by rfl) ?hd19x20 ?_
      case hd19x20 =>
       intro w9 s9
       have ca := ROWC.out w9 s9.2.2
       clear s9
       go_simp
       try (with_reducible rfl)
      simp only [SL]
      refine held_step (i := 20) rfl (by kernel_rfl) (fun K hK => ?_)
      have HK := Lib.hid hK
      clear hK
      go_simp
      go_wp2_with fail
      refine (del_R TT.out.1 5 (by decide) HE5.out HN5.out _ KOK.out).mono ?_
      rw [GB.out]
      rintro e w6 ⟨q2, rfl, hT, hK⟩
      refine HK.out _ _ ?_ ?_
      ·exact ⟨hT.size, (hK b (by simp)).trans hS.2.1, (hK g (by simp [HOB.out])).trans hS.2.2⟩
      clear HK K
      try simp only [Act.put, SL]
      have hS' := And.intro hT.size (And.intro ((hK b (by simp)).trans hS.2.1) ((hK g (by simp [HOB.out])).trans hS.2.2))
      clear hS
      have hS := hS'
      clear hS'
      have TTn := Lib.hid (And.intro hT (TT.out.2.trans hK))
      clear TT hT hK
      have TT := TTn
      clear TTn
      refine ht (i := 21) 95 (v := ?vd21x21) rfl rfl (by kernel_rfl) (fun _ _ _ h => h) hS (by rfl) ?hd21x21 ?_
      case hd21x21 =>
       intro w9 s9
       clear s9
       go_simp
       try (with_reducible rfl)
      simp only [SL]
      refine ht (i := 22) 117 (v := ?vd22x22) rfl rfl (by kernel_rfl) (fun _ _ _ h => h) hS (by rfl) ?hd22x22 ?_
      case hd22x22 =>
       intro w9 s9
       clear s9
       go_simp
       try (with_reducible rfl)
      simp only [SL]
      refine ht (i := 23) 118 (v := ?vd23x23) rfl rfl (by kernel_rfl) (fun _ _ _ h => h) hS (by rfl) ?hd23x23 ?_
      case hd23x23 =>
       intro w9 s9
       clear s9
       go_simp
       try (with_reducible rfl)
      simp only [SL]
      refine ht (i := 24) 119 (v := ?vd24x24) rfl rfl (by kernel_rfl) (fun _ _ _ h => h) hS (by rfl) ?hd24x24 ?_
      case hd24x24 =>
       intro w9 s9
       clear s9
       go_simp
       try (with_reducible rfl)
      simp only [SL]
      refine ht (i := 25) 14 (v := ?vd25x25) rfl rfl (by kernel_rfl) (fun _ _ _ h => h) hS (by rfl) ?hd25x25 ?_
      case hd25x25 =>
       intro w9 s9
       clear s9
       go_simp
       try (with_reducible rfl)
      simp only [SL]
      refine ht (i := 26) 15 (v := ?vd26x26) rfl rfl (by kernel_rfl) (fun _ _ _ h => h) hS (by rfl) ?hd26x26 ?_
      case hd26x26 =>
       intro w9 s9
       clear s9
       go_simp
       try (with_reducible rfl)
      simp only [SL]
      refine ht (i := 27) 16 (v := ?vd27x27) rfl rfl (by kernel_rfl) (fun _ _ _ h => h) hS (by rfl) ?hd27x27 ?_
      case hd27x27 =>
       intro w9 s9
       clear s9
       go_simp
       try (with_reducible rfl)
      simp only [SL]
      refine wpAnyH_done (by kernel_rfl) ?_ _
      obtain ⟨_, _, _, _, p4, pf⟩ := cells5 hS.2.1
      have pf4 := pf 4
      obtain ⟨w7, hw7⟩ : ∃ w7, w6.setCell ⟨b, 4, none⟩ (.int .i64 q2) = w7 := ⟨_, rfl⟩
      have FIN := Lib.hid (HD.out.next LOB.out OBB.out HND.out HIN.out HKK.out TT.out.1 TT.out.2 hw7)
      have LEN : Hid ((delE kk E2).length ≤ 50) := Lib.hid (Nat.le_trans (delE_len _ _) HE.out)
      clear TT hS HD
      go_wp2_with fail
      try rw [hw7]
      try clear hw7
      go_roundw
      case rel =>
       have hnn := HNN.out
       subst hnn
       exact ⟨i + 1, _, _, HIN.out, rfl, LEN, FIN⟩
      case measure => have := HIN.out; have := KL50.out; simp [intOf]; omega
     ·have hli : ¬ (i : Int) < (K.length : Int) := by omega
      have hE : E2 = [] := keysE_nil fun x hx => LeftK.done (by omega) x ((HD.out.ke x).1 hx)
      subst hE
      have hr0 : root2 = 0 := root_nil HD.out.tr
      subst hr0
      obtain ⟨c, _, hc0, LF⟩ := left_R HD.out.tr
      rw [hc0 rfl] at LF
      have LFH := Lib.hid LF
      have SZ := Lib.hid HD.out.tr.size
      obtain ⟨q0, q1, q2, q3, q4, _⟩ := cells5 HD.out.cb
      have HDH := HD
      clear HD hc0 LF hlt hi
      go_wp2_with fail
      refine LFH.out.mono ?_
      rintro e w9 ⟨rfl, b9⟩
      have BF := Lib.hid (chain B1.out (chain SZ.out b9))
      clear b9 LFH
      go_wp2_with fail
      go_ret
      exact ⟨rfl, BF.out⟩
end Go.Proofs.YtmomlhiokggfbaaGreatDoor
