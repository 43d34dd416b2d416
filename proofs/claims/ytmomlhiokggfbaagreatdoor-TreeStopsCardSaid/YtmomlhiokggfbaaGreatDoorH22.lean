/- Parts. -/
import Derived.Test.YtmomlhiokggfbaaGreatDoorH20
import Derived.Test.YtmomlhiokggfbaaGreatDoorH01
import Derived.Test.YtmomlhiokggfbaaGreatDoorH08
import Derived.Test.YtmomlhiokggfbaaGreatDoorH05
import Derived.MapKept
import Derived.Test.YtmomlhiokggfbaaGreatDoorH21
import Derived.Test.YtmomlhiokggfbaaGreatDoorH03
namespace Go.Proofs.YtmomlhiokggfbaaGreatDoor
open Go.RowKit
set_option linter.unusedVariables false
set_option linter.unusedSimpArgs false
set_option maxRecDepth 20000
def zrowV (q : Nat) : SP := ⟨fun v w => ∃ g, v = .slice (some ⟨g, 0, none⟩) q q ∧ Byt 5 w g (List.replicate q 0), fun _ _ _ ⟨g, h1, h2⟩ hb => ⟨g, h1, h2.below hb⟩⟩
def oneV (x : UInt8) : SP := ⟨fun v w => ∃ g, v = .slice (some ⟨g, 0, none⟩) 1 1 ∧ Byt 5 w g [x], fun _ _ _ ⟨g, h1, h2⟩ hb => ⟨g, h1, h2.below hb⟩⟩
def lawM (n : Int) : Nat := (if n < 0 then -(n + 1) else n).toNat
def lawV (n : Int) : ByteArray := Str (List.replicate (lawM n % 40) 0) ++ Str [UInt8.ofNat (lawM n % 256)]
theorem lawV_size (n : Int) : (lawV n).size ≤ 40 := by
 unfold lawV
 rw [ByteArray.size_append, Str_size, Str_size, List.length_replicate]
 have := Nat.mod_lt (lawM n) (show 0 < 40 by decide)
 simp only [List.length_cons, List.length_nil]
 omega
set_option maxHeartbeats 1600000 in
set_option maxRecDepth 20000 in
theorem value_is (w : World) (n : Int) (h1 : -9223372036854775808 ≤ n) (h2 : n ≤ 9223372036854775807) :
  Calls Tryz.prog 17 #[.int .i64 n] w fun e w' => e = .returned (.string (lawV n)) ∧ Below w.heap.size w w' := by
 obtain ⟨m, hm⟩ : ∃ m, lawM n = m := ⟨_, rfl⟩
 obtain ⟨q, hq⟩ : ∃ q, m % 40 = q := ⟨_, rfl⟩
 obtain ⟨x, hx⟩ : ∃ x, UInt8.ofNat (m % 256) = x := ⟨_, rfl⟩
 obtain ⟨Z, hZ⟩ : ∃ Z, Str (List.replicate q (0 : UInt8)) = Z := ⟨_, rfl⟩
 obtain ⟨X1, hX1⟩ : ∃ X1, Str [x] = X1 := ⟨_, rfl⟩
 have FIN : Hid (lawV n = Z ++ X1) := Lib.hid (by unfold lawV; rw [hm, hq, hx, hZ, hX1])
 have HQ40 : Hid (q < 40) := Lib.hid (by rw [← hq]; exact Nat.mod_lt _ (by decide))
 have HQ : Hid ((m : Int).tmod 40 = (q : Int)) := Lib.hid (by rw [← hq]; rfl)
 have HZ := Lib.hid hZ
 have HX1 := Lib.hid hX1
 have HX : Hid (IntKind.u8.wrap (m : Int) = (x.toNat : Int)) := Lib.hid (by rw [← hx, UInt8.toNat_ofNat']; show _ = _; rw [IntKind.wrap_u8]; omega)
 have HSZ : Hid ((9223372036854775807 < Z.size + X1.size) = False) := Lib.hid (by
  rw [← hZ, ← hX1, Str_size, Str_size, List.length_replicate]
  have := HQ40.out
  simp only [List.length_cons, List.length_nil]
  exact eq_false (by omega))
 clear hq hx hZ hX1
 by_cases hn : n < 0
 ·have hm' : -(n + 1) = (m : Int) := by rw [← hm]; unfold lawM; rw [if_pos hn]; omega
  have e1 : IntKind.i64.wrap (n + 1) = n + 1 := IntWalk.i64_in _ (by omega)
  have e2 : IntKind.i64.wrap (-(n + 1)) = (m : Int) := by rw [hm']; exact IntWalk.i64_in _ (by omega)
  clear hm hm'
  go_enter Tryz.func17, Tryz.ntmps17
  go_wp2_with fail
  refine region_kit 99 17 [eqV (.int .i64 (m : Int)), eqV (.int .i64 ((q : Nat) : Int)), zrowV q, eqV (.string Z), eqV (.int .i64 (m : Int)), eqV (.int .u8 (x.toNat : Int)), oneV x, eqV (.string X1), eqV (.string (Z ++ X1)), eqV (.string (Z ++ X1))] (by kernel_rfl) (by kernel_rfl) (by rfl) ?owes ?ends
  case owes =>
   refine OwesAll.op (k := 0) rfl ?_ ?_
   ·intro a wx hS hold hdep K HK
    have d0 : a.tmps[0]?.getD undef = .int .i64 (m : Int) := hold 0 (unset_of (by kernel_rfl))
    clear hold hdep
    rw [if_pos (by rfl)]
    go_simp
    exact HK.out _ _ rfl (Below.refl _ _)
   refine OwesAll.op (k := 1) rfl ?_ ?_
   ·intro a wx hS hold hdep K HK
    have d8 : a.tmps[8]?.getD undef = .int .i64 (m : Int) := dp hdep 0 rfl rfl (by kernel_rfl)
    clear hold hdep
    have hq := HQ.out
    rw [if_pos (by rfl)]
    go_simp
    exact HK.out _ _ rfl (Below.refl _ _)
   refine OwesAll.op (k := 2) rfl ?_ ?_
   ·intro a wx hS hold hdep K HK
    have d9 : a.tmps[9]?.getD undef = .int .i64 ((q : Nat) : Int) := dp hdep 1 rfl rfl (by kernel_rfl)
    clear hold hdep
    obtain ⟨w3, hmk, hrow, hbel⟩ := made_bytes wx q q (Nat.le_refl _) (by have := HQ40.out; omega)
    have hmk' : (Instr.makeSlice 62 (.int .i64 (q : Int)) (.int .i64 (q : Int))).run Tryz.prog wx = .ok (.slice (some ⟨wx.heap.size, 0, none⟩) q q) w3 := hmk
    clear hmk
    rw [if_pos (by rfl)]
    go_simp
    exact HK.out _ _ ⟨_, rfl, hrow⟩ hbel
   refine OwesAll.op (k := 3) rfl ?_ ?_
   ·intro a wx hS hold hdep K HK
    obtain ⟨g10, d10, z10⟩ : ∃ g, a.tmps[10]?.getD undef = .slice (some ⟨g, 0, none⟩) q q ∧ Byt 5 wx g (List.replicate q 0) := dp hdep 2 rfl rfl (by kernel_rfl)
    clear hold hdep
    have hcv := z10.conv q q (by rw [List.length_replicate]; exact Nat.le_refl _)
    rw [List.take_of_length_le (by rw [List.length_replicate]; exact Nat.le_refl _), HZ.out] at hcv
    have hcv' : (convert 62 9 (.slice (some ⟨g10, 0, none⟩) q q)).run Tryz.prog wx = .ok (.string Z) wx := hcv
    clear hcv
    rw [if_pos (by rfl)]
    go_simp
    exact HK.out _ _ rfl (Below.refl _ _)
   refine OwesAll.op (k := 4) rfl ?_ ?_
   ·intro a wx hS hold hdep K HK
    have d0 : a.tmps[0]?.getD undef = .int .i64 (m : Int) := hold 0 (unset_of (by kernel_rfl))
    clear hold hdep
    rw [if_pos (by rfl)]
    go_simp
    exact HK.out _ _ rfl (Below.refl _ _)
   refine OwesAll.op (k := 5) rfl ?_ ?_
   ·intro a wx hS hold hdep K HK
    have d12 : a.tmps[12]?.getD undef = .int .i64 (m : Int) := dp hdep 4 rfl rfl (by kernel_rfl)
    clear hold hdep
    rw [if_pos (by rfl)]
    go_simp
    refine HK.out _ _ ?_ (Below.refl _ _)
    show _ = _
    first | rfl | simp only [HX.out]
   refine OwesAll.op (k := 6) rfl ?_ ?_
   ·intro a wx hS hold hdep K HK
    have d13 : a.tmps[13]?.getD undef = .int .u8 (x.toNat : Int) := dp hdep 5 rfl rfl (by kernel_rfl)
    clear hold hdep
    rw [if_pos (by rfl)]
    go_simp
    exact HK.out _ _ ⟨_, rfl, heap_alloc_new wx _⟩ (below_made _ _)
   refine OwesAll.op (k := 7) rfl ?_ ?_
   ·intro a wx hS hold hdep K HK
    obtain ⟨g14, d14, z14⟩ : ∃ g, a.tmps[14]?.getD undef = .slice (some ⟨g, 0, none⟩) 1 1 ∧ Byt 5 wx g [x] := dp hdep 6 rfl rfl (by kernel_rfl)
    clear hold hdep
    have hcv := z14.conv 1 1 (Nat.le_refl _)
    rw [show ([x] : List UInt8).take 1 = [x] from rfl, HX1.out] at hcv
    have hcv' : (convert 62 9 (.slice (some ⟨g14, 0, none⟩) 1 1)).run Tryz.prog wx = .ok (.string X1) wx := hcv
    clear hcv
    rw [if_pos (by rfl)]
    go_simp
    exact HK.out _ _ rfl (Below.refl _ _)
   refine OwesAll.op (k := 8) rfl ?_ ?_
   ·intro a wx hS hold hdep K HK
    have d11 : a.tmps[11]?.getD undef = .string Z := dp hdep 3 rfl rfl (by kernel_rfl)
    have d15 : a.tmps[15]?.getD undef = .string X1 := dp hdep 7 rfl rfl (by kernel_rfl)
    clear hold hdep
    have hs := HSZ.out
    rw [if_pos (by rfl)]
    go_simp
    exact HK.out _ _ rfl (Below.refl _ _)
   refine OwesAll.op (k := 9) rfl ?_ ?_
   ·intro a wx hS hold hdep K HK
    have d16 : a.tmps[16]?.getD undef = .string (Z ++ X1) := dp hdep 8 rfl rfl (by kernel_rfl)
    clear hold hdep
    rw [if_pos (by rfl)]
    go_simp
    exact HK.out _ _ rfl (Below.refl _ _)
   exact OwesAll.nil
  case ends =>
   intro a wx hS hsz hdf hold hdone
   simp only [List.getElem?_toArray, List.getElem?_cons_succ, List.getElem?_cons_zero, List.getElem?_nil]
   have hsz' : a.tmps.size = 17 := hsz
   have hdf' : a.defers = [] := hdf
   have ha := act_lit hsz' hdf'
   have e0 := hold 0 (unset_of (by kernel_rfl))
   have e1 := hold 1 (unset_of (by kernel_rfl))
   have e3 := hold 3 (unset_of (by kernel_rfl))
   have e4 := hold 4 (unset_of (by kernel_rfl))
   have e5 := hold 5 (unset_of (by kernel_rfl))
   have e6 := hold 6 (unset_of (by kernel_rfl))
   have e7 := hold 7 (unset_of (by kernel_rfl))
   have d8 : a.tmps.getD 8 undef = .int .i64 (m : Int) := hdone 0 _ 8 rfl (by decide) rfl
   have d9 : a.tmps.getD 9 undef = .int .i64 ((q : Nat) : Int) := hdone 1 _ 9 rfl (by decide) rfl
   have d11 : a.tmps.getD 11 undef = .string Z := hdone 3 _ 11 rfl (by decide) rfl
   have d12 : a.tmps.getD 12 undef = .int .i64 (m : Int) := hdone 4 _ 12 rfl (by decide) rfl
   have d13 : a.tmps.getD 13 undef = .int .u8 (x.toNat : Int) := hdone 5 _ 13 rfl (by decide) rfl
   have d15 : a.tmps.getD 15 undef = .string X1 := hdone 7 _ 15 rfl (by decide) rfl
   have d16 : a.tmps.getD 16 undef = .string (Z ++ X1) := hdone 8 _ 16 rfl (by decide) rfl
   have d2 : a.tmps.getD 2 undef = .string (Z ++ X1) := hdone 9 _ 2 rfl (by decide) rfl
   clear hold hdone hsz hdf hsz' hdf'
   simp only [Array.getD_eq_getD_getElem?, List.getElem?_toArray, List.getElem?_cons_succ, List.getElem?_cons_zero, Option.getD_some] at e0 e1 e3 e4 e5 e6 e7 d8 d9 d11 d12 d13 d15 d16 d2
   simp only [show (List.range 17) = [0, 1, 2, 3, 4, 5, 6, 7, 8, 9, 10, 11, 12, 13, 14, 15, 16] from rfl, List.map_cons, List.map_nil] at ha
   simp only [e0, e1, e3, e4, e5, e6, e7, d8, d9, d11, d12, d13, d15, d16, d2] at ha
   clear e0 e1 e3 e4 e5 e6 e7 d8 d9 d11 d12 d13 d15 d16 d2
   generalize a.tmps[10]?.getD undef = u10 at ha
   generalize a.tmps[14]?.getD undef = u14 at ha
   subst ha
   have HB := Lib.hid hS
   clear hS
   go_wp2_with fail
   go_ret
   exact ⟨by rw [FIN.out]; rfl, HB.out⟩
 ·obtain rfl : n = (m : Int) := by rw [← hm]; unfold lawM; rw [if_neg hn]; omega
  clear hm
  go_enter Tryz.func17, Tryz.ntmps17
  go_wp2_with fail
  refine region_kit 99 17 [eqV (.int .i64 (m : Int)), eqV (.int .i64 ((q : Nat) : Int)), zrowV q, eqV (.string Z), eqV (.int .i64 (m : Int)), eqV (.int .u8 (x.toNat : Int)), oneV x, eqV (.string X1), eqV (.string (Z ++ X1)), eqV (.string (Z ++ X1))] (by kernel_rfl) (by kernel_rfl) (by rfl) ?owes ?ends
  case owes =>
   refine OwesAll.op (k := 0) rfl ?_ ?_
   ·intro a wx hS hold hdep K HK
    have d0 : a.tmps[0]?.getD undef = .int .i64 (m : Int) := hold 0 (unset_of (by kernel_rfl))
    clear hold hdep
    rw [if_pos (by rfl)]
    go_simp
    exact HK.out _ _ rfl (Below.refl _ _)
   refine OwesAll.op (k := 1) rfl ?_ ?_
   ·intro a wx hS hold hdep K HK
    have d8 : a.tmps[8]?.getD undef = .int .i64 (m : Int) := dp hdep 0 rfl rfl (by kernel_rfl)
    clear hold hdep
    have hq := HQ.out
    rw [if_pos (by rfl)]
    go_simp
    exact HK.out _ _ rfl (Below.refl _ _)
   refine OwesAll.op (k := 2) rfl ?_ ?_
   ·intro a wx hS hold hdep K HK
    have d9 : a.tmps[9]?.getD undef = .int .i64 ((q : Nat) : Int) := dp hdep 1 rfl rfl (by kernel_rfl)
    clear hold hdep
    obtain ⟨w3, hmk, hrow, hbel⟩ := made_bytes wx q q (Nat.le_refl _) (by have := HQ40.out; omega)
    have hmk' : (Instr.makeSlice 62 (.int .i64 (q : Int)) (.int .i64 (q : Int))).run Tryz.prog wx = .ok (.slice (some ⟨wx.heap.size, 0, none⟩) q q) w3 := hmk
    clear hmk
    rw [if_pos (by rfl)]
    go_simp
    exact HK.out _ _ ⟨_, rfl, hrow⟩ hbel
   refine OwesAll.op (k := 3) rfl ?_ ?_
   ·intro a wx hS hold hdep K HK
    obtain ⟨g10, d10, z10⟩ : ∃ g, a.tmps[10]?.getD undef = .slice (some ⟨g, 0, none⟩) q q ∧ Byt 5 wx g (List.replicate q 0) := dp hdep 2 rfl rfl (by kernel_rfl)
    clear hold hdep
    have hcv := z10.conv q q (by rw [List.length_replicate]; exact Nat.le_refl _)
    rw [List.take_of_length_le (by rw [List.length_replicate]; exact Nat.le_refl _), HZ.out] at hcv
    have hcv' : (convert 62 9 (.slice (some ⟨g10, 0, none⟩) q q)).run Tryz.prog wx = .ok (.string Z) wx := hcv
    clear hcv
    rw [if_pos (by rfl)]
    go_simp
    exact HK.out _ _ rfl (Below.refl _ _)
   refine OwesAll.op (k := 4) rfl ?_ ?_
   ·intro a wx hS hold hdep K HK
    have d0 : a.tmps[0]?.getD undef = .int .i64 (m : Int) := hold 0 (unset_of (by kernel_rfl))
    clear hold hdep
    rw [if_pos (by rfl)]
    go_simp
    exact HK.out _ _ rfl (Below.refl _ _)
   refine OwesAll.op (k := 5) rfl ?_ ?_
   ·intro a wx hS hold hdep K HK
    have d12 : a.tmps[12]?.getD undef = .int .i64 (m : Int) := dp hdep 4 rfl rfl (by kernel_rfl)
    clear hold hdep
    rw [if_pos (by rfl)]
    go_simp
    refine HK.out _ _ ?_ (Below.refl _ _)
    show _ = _
    first | rfl | simp only [HX.out]
   refine OwesAll.op (k := 6) rfl ?_ ?_
   ·intro a wx hS hold hdep K HK
    have d13 : a.tmps[13]?.getD undef = .int .u8 (x.toNat : Int) := dp hdep 5 rfl rfl (by kernel_rfl)
    clear hold hdep
    rw [if_pos (by rfl)]
    go_simp
    exact HK.out _ _ ⟨_, rfl, heap_alloc_new wx _⟩ (below_made _ _)
   refine OwesAll.op (k := 7) rfl ?_ ?_
   ·intro a wx hS hold hdep K HK
    obtain ⟨g14, d14, z14⟩ : ∃ g, a.tmps[14]?.getD undef = .slice (some ⟨g, 0, none⟩) 1 1 ∧ Byt 5 wx g [x] := dp hdep 6 rfl rfl (by kernel_rfl)
    clear hold hdep
    have hcv := z14.conv 1 1 (Nat.le_refl _)
    rw [show ([x] : List UInt8).take 1 = [x] from rfl, HX1.out] at hcv
    have hcv' : (convert 62 9 (.slice (some ⟨g14, 0, none⟩) 1 1)).run Tryz.prog wx = .ok (.string X1) wx := hcv
    clear hcv
    rw [if_pos (by rfl)]
    go_simp
    exact HK.out _ _ rfl (Below.refl _ _)
   refine OwesAll.op (k := 8) rfl ?_ ?_
   ·intro a wx hS hold hdep K HK
    have d11 : a.tmps[11]?.getD undef = .string Z := dp hdep 3 rfl rfl (by kernel_rfl)
    have d15 : a.tmps[15]?.getD undef = .string X1 := dp hdep 7 rfl rfl (by kernel_rfl)
    clear hold hdep
    have hs := HSZ.out
    rw [if_pos (by rfl)]
    go_simp
    exact HK.out _ _ rfl (Below.refl _ _)
   refine OwesAll.op (k := 9) rfl ?_ ?_
   ·intro a wx hS hold hdep K HK
    have d16 : a.tmps[16]?.getD undef = .string (Z ++ X1) := dp hdep 8 rfl rfl (by kernel_rfl)
    clear hold hdep
    rw [if_pos (by rfl)]
    go_simp
    exact HK.out _ _ rfl (Below.refl _ _)
   exact OwesAll.nil
  case ends =>
   intro a wx hS hsz hdf hold hdone
   simp only [List.getElem?_toArray, List.getElem?_cons_succ, List.getElem?_cons_zero, List.getElem?_nil]
   have hsz' : a.tmps.size = 17 := hsz
   have hdf' : a.defers = [] := hdf
   have ha := act_lit hsz' hdf'
   have e0 := hold 0 (unset_of (by kernel_rfl))
   have e1 := hold 1 (unset_of (by kernel_rfl))
   have e3 := hold 3 (unset_of (by kernel_rfl))
   have e4 := hold 4 (unset_of (by kernel_rfl))
   have e5 := hold 5 (unset_of (by kernel_rfl))
   have e6 := hold 6 (unset_of (by kernel_rfl))
   have e7 := hold 7 (unset_of (by kernel_rfl))
   have d8 : a.tmps.getD 8 undef = .int .i64 (m : Int) := hdone 0 _ 8 rfl (by decide) rfl
   have d9 : a.tmps.getD 9 undef = .int .i64 ((q : Nat) : Int) := hdone 1 _ 9 rfl (by decide) rfl
   have d11 : a.tmps.getD 11 undef = .string Z := hdone 3 _ 11 rfl (by decide) rfl
   have d12 : a.tmps.getD 12 undef = .int .i64 (m : Int) := hdone 4 _ 12 rfl (by decide) rfl
   have d13 : a.tmps.getD 13 undef = .int .u8 (x.toNat : Int) := hdone 5 _ 13 rfl (by decide) rfl
   have d15 : a.tmps.getD 15 undef = .string X1 := hdone 7 _ 15 rfl (by decide) rfl
   have d16 : a.tmps.getD 16 undef = .string (Z ++ X1) := hdone 8 _ 16 rfl (by decide) rfl
   have d2 : a.tmps.getD 2 undef = .string (Z ++ X1) := hdone 9 _ 2 rfl (by decide) rfl
   clear hold hdone hsz hdf hsz' hdf'
   simp only [Array.getD_eq_getD_getElem?, List.getElem?_toArray, List.getElem?_cons_succ, List.getElem?_cons_zero, Option.getD_some] at e0 e1 e3 e4 e5 e6 e7 d8 d9 d11 d12 d13 d15 d16 d2
   simp only [show (List.range 17) = [0, 1, 2, 3, 4, 5, 6, 7, 8, 9, 10, 11, 12, 13, 14, 15, 16] from rfl, List.map_cons, List.map_nil] at ha
   simp only [e0, e1, e3, e4, e5, e6, e7, d8, d9, d11, d12, d13, d15, d16, d2] at ha
   clear e0 e1 e3 e4 e5 e6 e7 d8 d9 d11 d12 d13 d15 d16 d2
   generalize a.tmps[10]?.getD undef = u10 at ha
   generalize a.tmps[14]?.getD undef = u14 at ha
   subst ha
   have HB := Lib.hid hS
   clear hS
   go_wp2_with fail
   go_ret
   exact ⟨by rw [FIN.out]; rfl, HB.out⟩
end Go.Proofs.YtmomlhiokggfbaaGreatDoor
namespace Go.Proofs.YtmomlhiokggfbaaGreatDoor
open Go.RowKit
set_option linter.unusedVariables false
set_option maxRecDepth 20000
def getW : List (Int × Value) → Int → Option Value
 | [], _ => none
 | p :: L, k => if p.1 = k then some p.2 else getW L k
def setW : List (Int × Value) → Int → Value → List (Int × Value)
 | [], k, v => [(k, v)]
 | p :: L, k, v => if p.1 = k then (k, v) :: L else p :: setW L k v
def EntW (L : List (Int × Value)) (l : List MapEntry) : Prop := l.map (fun e => (e.key, e.val)) = L.map (fun p => (Value.int .u64 p.1, p.2))
def MapW (w : World) (m : Nat) (L : List (Int × Value)) : Prop := ∃ es clock, w.heap[m]? = some (.map es clock) ∧ EntW L es.toList
theorem MapW.lt {w : World} {m : Nat} {L : List (Int × Value)} (h : MapW w m L) : m < w.heap.size := by
 obtain ⟨es, c, hb, _⟩ := h
 exact (Array.getElem?_eq_some_iff.1 hb).1
theorem MapW.kept {w w' : World} {m : Nat} {L : List (Int × Value)} (h : MapW w m L) (e : w'.heap[m]? = w.heap[m]?) : MapW w' m L := by
 obtain ⟨es, c, hb, he⟩ := h
 exact ⟨es, c, e.trans hb, he⟩
theorem MapW.below {w w' : World} {m : Nat} {L : List (Int × Value)} (h : MapW w m L) (hb : Below w.heap.size w w') : MapW w' m L := h.kept (hb.block _ h.lt)
def dW : TypeDesc := .int .u64
theorem same_W (a b : Int) : Instr.sameNow dW (.int .u64 a) (.int .u64 b) = some (a == b) := by simp [Instr.sameNow, dW]
theorem findW (n : Int) : ∀ (l : List MapEntry) (L : List (Int × Value)) (i : Nat), EntW L l →
  (Instr.findNow dW (.int .u64 n) l i = some none ∧ getW L n = none ∧ ∀ v, setW L n v = L ++ [(n, v)]) ∨ ∃ j v, Instr.findNow dW (.int .u64 n) l i = some (some (i + j, v)) ∧ j < l.length ∧ getW L n = some v ∧ L.map (·.1) = L.map (·.1) ∧ ∀ v', setW L n v' = L.set j (n, v')
 | [], L, _, h => by
  cases L with
  | nil => exact .inl ⟨rfl, rfl, fun _ => rfl⟩
  | cons p L => simp [EntW] at h
 | e :: l, [], _, h => by simp [EntW] at h
 | e :: l, p :: L, i, h => by
  simp only [EntW, List.map_cons, List.cons.injEq, Prod.mk.injEq] at h
  by_cases hp : p.1 = n
  ·refine .inr ⟨0, p.2, ?_, by simp, ?_, rfl, ?_⟩
   ·have hs : Instr.sameNow dW (.int .u64 n) e.key = some true := by rw [h.1.1, same_W, hp]; simp
    simp only [Instr.findNow, hs, h.1.2, Nat.add_zero]
   ·simp only [getW]; rw [if_pos hp]
   ·intro v'; simp only [setW]; rw [if_pos hp]; rfl
  ·have hs : Instr.sameNow dW (.int .u64 n) e.key = some false := by
    rw [h.1.1, same_W]
    congr 1
    rw [beq_eq_false_iff_ne]
    exact Ne.symm hp
   rcases findW n l L (i + 1) h.2 with ⟨h1, h2, h3⟩ | ⟨j, v, h1, h2, h3, _, h4⟩
   ·refine .inl ⟨by simp only [Instr.findNow, hs]; exact h1, by simp only [getW]; rw [if_neg hp]; exact h2, fun v => ?_⟩
    simp only [setW]; rw [if_neg hp, h3]; rfl
   ·refine .inr ⟨j + 1, v, by simp only [Instr.findNow, hs]; rw [h1]; congr 3; omega, by simpa using h2, by simp only [getW]; rw [if_neg hp]; exact h3, rfl, fun v' => ?_⟩
    simp only [setW]; rw [if_neg hp, h4]; rfl
section
variable {P : Program} {w : World} {m : Nat} {L : List (Int × Value)} {t k e : TypeId} (ht : P.underlying t = some (.map k e)) (hk : P.underlying k = some (.int .u64))
include ht hk
theorem lookupW (h : MapW w m L) (n : Int) (z : Value) (hz : (zeroValue e).run P w = .ok z w) (ok : Bool) :
  (Instr.lookup t (.map (some m)) (.int .u64 n) ok).run P w = .ok (if ok then .tuple #[((getW L n).getD z), .bool (getW L n).isSome] else ((getW L n).getD z)) w := by
 obtain ⟨es, c, hb, he⟩ := h
 have h1 := MapKept.run_getObj_map (P := P) hb
 have h2 := MapKept.run_checkKey (P := P) (w := w) hk (k := .int .u64 n) (by first | rfl | trivial | exact ⟨_, rfl⟩) es.isEmpty 9999
 rcases findW n es.toList L 0 he with ⟨f1, f2, _⟩ | ⟨j, v, f1, _, f2, _, _⟩
 ·have h3 := MapKept.run_findKey (P := P) (w := w) hk f1
  rw [f2]
  cases ok <;> simp [Instr.lookup, run_underlying ht, h1, h2, h3, hz]
 ·have h3 := MapKept.run_findKey (P := P) (w := w) hk f1
  rw [f2]
  cases ok <;> simp [Instr.lookup, run_underlying ht, h1, h2, h3]
theorem updateW (h : MapW w m L) (n : Int) (v : Value) :
  ∃ o, (Instr.mapUpdate t (.map (some m)) (.int .u64 n) v).run P w = .ok () { w with heap := w.heap.setIfInBounds m o } ∧ MapW { w with heap := w.heap.setIfInBounds m o } m (setW L n v) := by
 obtain ⟨es, c, hb, he⟩ := h
 have h1 := MapKept.run_getObj_map (P := P) hb
 have h2 := MapKept.run_checkKey (P := P) (w := w) hk (k := .int .u64 n) (by first | rfl | trivial | exact ⟨_, rfl⟩) false 9999
 rcases findW n es.toList L 0 he with ⟨f1, f2, f3⟩ | ⟨j, u, f1, fj, f2, _, f3⟩
 ·have h3 := MapKept.run_findKey (P := P) (w := w) hk f1
  have h4 := MapKept.run_setObj_map (P := P) (.map (es.push { key := .int .u64 n, val := v, born := c }) (c + 1)) hb
  refine ⟨_, by simp [Instr.mapUpdate, run_underlying ht, h1, h2, h3, h4]; rfl, ?_⟩
  refine ⟨_, _, (MapKept.heap_set hb).1, ?_⟩
  unfold EntW at *
  rw [f3, Array.toList_push, List.map_append, he, List.map_append]
  rfl
 ·have h3 := MapKept.run_findKey (P := P) (w := w) hk f1
  rw [Nat.zero_add] at h3
  have hke : ∀ e, es[j]? = some e → e.key = .int .u64 n := by
   intro e hej
   have hl : L.length = es.toList.length := by have := congrArg List.length he; simpa using this.symm
   have h5 := f3 v
   have e1 : (es.toList.map (fun e => (e.key, e.val)))[j]? = some (e.key, e.val) := by rw [List.getElem?_map, Array.getElem?_toList, hej]; rfl
   rw [he, List.getElem?_map] at e1
   have hjL : j < L.length := by rw [hl]; exact fj
   rw [List.getElem?_eq_getElem hjL] at e1
   simp only [Option.map_some, Option.some.injEq, Prod.mk.injEq] at e1
   have hn : L[j].1 = n := by
    have : ∀ (l : List MapEntry) (L : List (Int × Value)) (i j : Nat) (x : Value), EntW L l → Instr.findNow dW (.int .u64 n) l i = some (some (i + j, x)) → ∀ h : j < L.length, L[j].1 = n := by
     intro l
     induction l with
     | nil => intro L i j x _ hf; simp [Instr.findNow] at hf
     | cons a l ih =>
      intro L i j x hE hf hj
      cases L with
      | nil => cases hj
      | cons p L =>
       simp only [EntW, List.map_cons, List.cons.injEq, Prod.mk.injEq] at hE
       simp only [Instr.findNow] at hf
       rw [hE.1.1, same_W] at hf
       by_cases hp : n = p.1
       ·simp [hp] at hf
        obtain rfl : j = 0 := by omega
        exact hp.symm
       ·rw [show (n == p.1) = false from by simpa using hp] at hf
        simp only at hf
        cases j with
        | zero =>
         exfalso
         have hgt : ∀ (l : List MapEntry) (i : Nat) (r : Nat) (x : Value), Instr.findNow dW (.int .u64 n) l i = some (some (r, x)) → i ≤ r := by
          intro l
          induction l with
          | nil => intro i r x h; simp [Instr.findNow] at h
          | cons b l ih =>
           intro i r x h
           simp only [Instr.findNow] at h
           split at h
           ·simp at h; omega
           ·have := ih _ _ _ h; omega
           ·cases h
         have := hgt l (i + 1) (i + 0) x hf
         omega
        | succ j => exact ih L (i + 1) j x hE.2 (by rw [show i + 1 + j = i + (j + 1) from by omega]; exact hf) (by simpa using hj)
    exact this es.toList L 0 j _ he f1 hjL
   rw [← e1.1, hn]
  have h4 := MapKept.run_setObj_map (P := P) (.map (es.modify j fun e => { e with key := .int .u64 n, val := v }) c) hb
  have h6 : (Instr.keyThatStays (((es[j]?).map (·.key)).getD (.int .u64 n)) (.int .u64 n)).run P w = .ok (.int .u64 n) w := by
   have : ((es[j]?).map (·.key)).getD (.int .u64 n) = .int .u64 n := by
    cases hq : es[j]? with
    | none => rfl
    | some e => simp [hke e hq]
   rw [this]
   exact MapKept.run_keyThatStays (d := dW) (by first | rfl | trivial | exact ⟨_, rfl⟩)
  refine ⟨_, by simp [Instr.mapUpdate, run_underlying ht, h1, h2, h3, h6, h4]; rfl, ?_⟩
  refine ⟨_, _, (MapKept.heap_set hb).1, ?_⟩
  unfold EntW at *
  rw [f3 v, List.map_set, ← he]
  apply List.ext_getElem?
  intro i
  rw [List.getElem?_map, Array.getElem?_toList, Array.getElem?_modify, List.getElem?_set]
  by_cases hij : j = i
  ·subst hij
   rw [if_pos rfl, if_pos rfl, if_pos (by simpa using fj)]
   have : j < es.size := by simpa using fj
   rw [Array.getElem?_eq_getElem this]
   rfl
  ·rw [if_neg hij, if_neg hij, List.getElem?_map, Array.getElem?_toList]
theorem updateWB (h : MapW w m L) (n : Int) (v : Value) :
  ∃ w', (Instr.mapUpdate t (.map (some m)) (.int .u64 n) v).run P w = .ok () w' ∧ MapW w' m (setW L n v) ∧ Below m w w' ∧ w'.heap.size = w.heap.size ∧ Frm (fun x => x = m) w w' := by
 obtain ⟨o, h1, h2⟩ := updateW ht hk h n v
 obtain ⟨es, c, hb, _⟩ := h
 refine ⟨_, h1, h2, ⟨rfl, rfl, rfl, by simp, fun k hk => (MapKept.heap_set hb).2 k (Nat.ne_of_lt hk)⟩, by simp, (Frm.refl _ w).setObj m o (.inl rfl)⟩
end
end Go.Proofs.YtmomlhiokggfbaaGreatDoor
namespace Go.Proofs.YtmomlhiokggfbaaGreatDoor
set_option linter.unusedVariables false
set_option linter.unusedSimpArgs false
set_option maxRecDepth 20000

end Go.Proofs.YtmomlhiokggfbaaGreatDoor
namespace Go.Proofs.YtmomlhiokggfbaaGreatDoor
open Go.RowKit
set_option linter.unusedVariables false
set_option linter.unusedSimpArgs false
set_option maxRecDepth 20000
theorem int_cellA {w : World} {a : Option Addr} {len cap : Nat} {zs : List Int} (hk : IsInts .i64 w a len cap zs) (j : Nat) (hj : j < len) : ∃ (x : Addr) (z : Int), a = some x ∧ zs.getD j 0 = z ∧ (-9223372036854775808 ≤ z ∧ z ≤ 9223372036854775807) ∧ Hid (∀ wr, Below w.heap.size w wr → wr.cell? (x.add j) = some (.int .i64 z)) := by
 rcases hk with ⟨rfl, rfl, rfl, rfl⟩ | ⟨x, rfl, h1, h2, h3, h4, h5⟩
 ·omega
 ·have hjl : j < zs.length := by omega
  refine ⟨x, _, rfl, rfl, ?_, Lib.hid fun wr hb => ?_⟩
  ·have hm : zs.getD j 0 ∈ zs := by
    rw [List.getD_eq_getElem?_getD, List.getElem?_eq_getElem hjl]
    exact List.getElem_mem hjl
   have hw := h5 _ hm
   generalize zs.getD j 0 = z at hw ⊢
   simp [Lit.wf] at hw
   have e1 : IntKind.i64.min = -9223372036854775808 := by rfl
   have e2 : IntKind.i64.max = 9223372036854775807 := by rfl
   omega
  ·have hc := h4 j hjl
   have hlt : (x.add j).block < w.heap.size := by
    unfold World.cell? at hc
    cases hq : w.heap[(x.add j).block]? with
    | none => rw [hq] at hc; simp at hc
    | some b => exact (Array.getElem?_eq_some_iff.1 hq).1
   exact (hb.cell hlt).trans hc
theorem ints_len {w : World} {a : Option Addr} {len cap : Nat} {zs : List Int} (hk : IsInts .i64 w a len cap zs) : (len : Int) ≤ 9223372036854775807 := by
 rcases hk with ⟨_, rfl, _, _⟩ | ⟨_, _, h1, h2, _⟩
 ·decide
 ·unfold maxLen at h2; omega
def setL (K : List Int) : List (Int × Value) := K.map fun k => (k, .bool true)
theorem setL_get (K : List Int) (k : Int) : (getW (setL K) k).getD (.bool false) = .bool (decide (k ∈ K)) := by
 induction K with
 | nil => rfl
 | cons x K ih =>
  show (if x = k then some (Value.bool true) else getW (setL K) k).getD _ = _
  by_cases hx : x = k
  ·rw [if_pos hx]; simp [hx]
  ·rw [if_neg hx, ih]
   congr 1
   rw [Bool.eq_iff_iff]
   simp [Ne.symm hx]
theorem setL_put (K : List Int) (k : Int) : setW (setL K) k (.bool true) = setL (if k ∈ K then K else K ++ [k]) := by
 induction K with
 | nil => rfl
 | cons x K ih =>
  show (if x = k then (k, Value.bool true) :: setL K else (x, .bool true) :: setW (setL K) k (.bool true)) = _
  by_cases hx : x = k
  ·rw [if_pos hx, if_pos (by simp [hx]), hx]; rfl
  ·rw [if_neg hx, ih]
   by_cases hk : k ∈ K
   ·rw [if_pos hk, if_pos (List.mem_cons_of_mem _ hk)]; rfl
   ·rw [if_neg hk, if_neg (by simp [hk, Ne.symm hx])]; rfl
theorem bool_zero (P : Program) (w : World) : (zeroValue 4).run Tryz.prog w = .ok (.bool false) w := by kernel_rfl
section
structure EmI (w1 w : World) (n : Nat) (b d x' s r' m : Nat) (v : Value) (KM KR : List Int) (p : Option Int) (E : List Ent) (root : Int) : Prop where
 tr : TrR w1 (v.ownBlock.toList ++ [m, b]) w d s n root E
 cb : w.heap[b]? = some (.cells #[.pointer (some ⟨d, 0, none⟩), .pointer (some ⟨x', 0, none⟩), .pointer (some ⟨s, 0, none⟩), .pointer (some ⟨r', 0, none⟩), .int .i64 root] 39)
 mp : MapW w m (setL KM)
 row : w.ownsRow 0 28 1 v KR.length (KR.map fun k => .int .u64 k)
 nd : KR.Nodup
 ke : ∀ x, x ∈ keysE E ↔ x ∈ KM ∨ some x = p
 kb : ∀ k ∈ KR, 0 ≤ k ∧ k ≤ 18446744073709551615
 lo : w1.heap.size ≤ m ∧ w1.heap.size ≤ b ∧ m ≠ b
 ob : ∀ k, v.ownBlock = some k → w1.heap.size ≤ k ∧ k ≠ m ∧ k ≠ b
variable {w1 w : World} {n : Nat} {b d x' s r' m : Nat} {v : Value} {KM KR : List Int} {p : Option Int} {E : List Ent} {root : Int}
theorem EmI.below (h : EmI w1 w n b d x' s r' m v KM KR p E root) {w' : World} (hb : Below w.heap.size w w') : EmI w1 w' n b d x' s r' m v KM KR p E root :=
 ⟨h.tr.below hb, (hb.block _ (h.tr.lt b (by simp))).trans h.cb, h.mp.below hb, ownsRow_keptN h.row (fun k hk => hb.block k (h.tr.lt k (by simp [hk]))), h.nd, h.ke, h.kb, h.lo, h.ob⟩
theorem EmI.put (h : EmI w1 w n b d x' s r' m v KM KR none E root) {w6 w7 : World} {q k : Int} {val : ByteArray} (hT : TrR w1 (v.ownBlock.toList ++ [m, b]) w6 d s n q (insE k val E)) (hK : KeptL (v.ownBlock.toList ++ [m, b]) w w6) (h7 : w6.setCell ⟨b, 4, none⟩ (.int .i64 q) = w7) : EmI w1 w7 n b d x' s r' m v KM KR (some k) (insE k val E) q := by
 have f : Frm (fun k => k = b) w6 w7 := by rw [← h7]; exact set_frm _
 have hm : ∀ i ∈ v.ownBlock.toList ++ [m, b], i ≠ b → w7.heap[i]? = w.heap[i]? := fun i hi hne => (f.block i (hT.lt i hi) hne).trans (hK i hi)
 refine ⟨hT.turn (by simp) h.lo.2.1 f, ?_, h.mp.kept (hm m (by simp) h.lo.2.2), ownsRow_keptN h.row (fun i hi => hm i (by simp [hi]) (h.ob i hi).2.2), h.nd, fun x => ?_, h.kb, h.lo, h.ob⟩
 ·rw [← h7, heap_setCell_same _ _ 4 _ _ _ ((hK b (by simp)).trans h.cb)]
  rfl
 ·rw [mem_insE, h.ke]
  simp only [Option.some.injEq]
  constructor
  ·rintro (h1 | h1 | h1)
   ·exact .inr h1
   ·exact .inl h1
   ·cases h1
  ·rintro (h1 | h1)
   ·exact .inr (.inl h1)
   ·exact .inl h1
theorem EmI.mapped {k : Int} (h : EmI w1 w n b d x' s r' m v KM KR (some k) E root) {w' : World} (hmp : MapW w' m (setW (setL KM) k (.bool true))) (hf : Frm (fun x => x = m) w w') : EmI w1 w' n b d x' s r' m v (if k ∈ KM then KM else KM ++ [k]) KR none E root := by
 refine ⟨h.tr.turn (by simp) h.lo.1 hf, (hf.block b (h.tr.lt b (by simp)) (Ne.symm h.lo.2.2)).trans h.cb, by rw [setL_put] at hmp; exact hmp, ownsRow_keptN h.row (fun i hi => hf.block i (h.tr.lt i (by simp [hi])) (h.ob i hi).2.1), h.nd, fun x => ?_, h.kb, h.lo, h.ob⟩
 rw [h.ke]
 simp only [Option.some.injEq]
 by_cases hk : k ∈ KM
 ·rw [if_pos hk]
  constructor
  ·rintro (h1 | rfl)
   ·exact .inl h1
   ·exact .inl hk
  ·rintro (h1 | h1)
   ·exact .inl h1
   ·cases h1
 ·rw [if_neg hk, List.mem_append, List.mem_singleton]
  constructor
  ·exact .inl
  ·rintro (h1 | h1)
   ·exact h1
   ·cases h1
end
set_option maxHeartbeats 6400000 in
set_option maxRecDepth 20000 in
theorem examples_yes11 (w : World) :
  Calls Tryz.prog 13 #[] w fun e w' => e = .returned (.bool true) ∧ Below w.heap.size w w' := by
 have NY := Lib.hid fun w => new_yes w 20 (by decide) (by decide)
 have FG := Lib.hid (fmt_good (DkS.fresh 20) rfl rfl (by decide) (by decide))
 obtain ⟨V, hV⟩ : ∃ V : ByteArray, (⟨#[102, 105, 118, 101]⟩ : ByteArray) = V := ⟨_, rfl⟩
 have HV := Lib.hid hV
 have hvv : V.toList == [102, 105, 118, 101] := by rw [← hV]; decide +kernel
 go_enter Tryz.func13, Tryz.ntmps13
 try simp only [List.append_eq, List.cons_append, List.nil_append]
 go_wp2_with fail
 refine (NY.out _).mono ?_
 rintro e w1 ⟨d, FD, rfl, hd, hb, hF⟩
 have HD := Lib.hid hd
 have HB := Lib.hid hb
 have HF := Lib.hid hF
 have pn := ptr_nilD ⟨d, 0, none⟩
 clear hd hb hF NY
 go_wp2_with fail
 refine (format_is w1 d (DkS.fresh 20) FD HD.out).mono ?_
 intro e w3 hp
 obtain ⟨v, rfl, s, FS, FD', rfl, hds, hf3, hn3, hs3⟩ := hp.1 FG.out.1
 have T0 : Hid (TrR w [] w3 d s 20 0 []) := by
  obtain ⟨g1, g2, g3, g4⟩ := FG.out
  refine Lib.hid ⟨HB.out.trans (hf3.below (fun k hk => HF.out k hk) HB.out.size), fun k => FD' k ∨ FS k, ⟨_, _, ⟨FD', FS, hds, fun _ => Iff.rfl⟩, g2, g3, g4, rfl⟩, fun k hk => ?_, fun k hk => by cases hk⟩
  have := HB.out.size
  rcases hk with hk | hk
  ·rcases hn3 k hk with h1 | h1
   ·exact HF.out k h1
   ·omega
  ·have := hs3 k hk; omega
 have pn2 := ptr_nilS ⟨s, 0, none⟩
 clear hp hds hf3 hn3 hs3 HD HB HF FG
 have PU : Hid (Calls Tryz.prog 16 #[.pointer (some ⟨s, 0, none⟩), .int .i64 0, .int .u64 5, .string V] w3 fun e w' => ∃ q, e = .returned (.tuple #[.int .i64 q, .int .i64 0]) ∧ TrR w [] w' d s 20 q [(5, V)] ∧ KeptL [] w3 w') := Lib.hid (by
  have := put_R T0.out 0 (by decide) (by simp) (by simp) 5 (by decide) V (by rw [← HV.out]; decide)
  exact this)
 go_wp2_with fail
 refine PU.out.mono ?_
 rintro e w4 ⟨q, rfl, hT, hKK⟩
 clear hKK
 have T1 := Lib.hid hT
 have GE : Hid (Calls Tryz.prog 22 #[.pointer (some ⟨s, 0, none⟩), .int .i64 q, .int .u64 5] w4 fun e w' => e = .returned (.tuple #[.string V, .bool true, .int .i64 0]) ∧ Below w4.heap.size w4 w') := Lib.hid (by
  have := get_R hT (by simp) 5 (by decide)
  rw [show getV 5 [(5, V)] = V from by simp [getV, getE], show getB 5 [(5, V)] = true from by simp [getB, getE]] at this
  exact this)
 clear hT PU T0
 go_wp2_with fail
 refine GE.out.mono ?_
 rintro e w5 ⟨rfl, b5⟩
 have T2 := Lib.hid (T1.out.below b5)
 clear b5 T1 GE
 go_wp2_with fail
 refine (getNil_R T2.out 5 (by decide)).mono ?_
 rintro e w6 ⟨rfl, b6⟩
 have T3 := Lib.hid (T2.out.below b6)
 clear b6 T2
 have DE : Hid (Calls Tryz.prog 18 #[.pointer (some ⟨s, 0, none⟩), .int .i64 q, .int .u64 5] w6 fun e w' => e = .returned (.tuple #[.int .i64 0, .bool true, .int .i64 0]) ∧ Below w.heap.size w w') := Lib.hid (by
  have := del_R T3.out 0 (by decide) (by simp) (by simp) 5 (by decide)
  rw [show getB 5 [(5, V)] = true from by simp [getB, getE]] at this
  refine this.mono ?_
  rintro e w' ⟨q2, rfl, hT, hKK⟩
  obtain rfl : q2 = 0 := root_nil hT (by simp [delE])
  exact ⟨rfl, hT.size⟩)
 go_wp2_with fail
 refine DE.out.mono ?_
 rintro e w7 ⟨rfl, b7⟩
 have HBB := Lib.hid b7
 clear b7 DE T3
 go_wp2_with fail
 go_ret
 exact ⟨rfl, HBB.out⟩
set_option maxHeartbeats 6400000 in
set_option maxRecDepth 20000 in
theorem tdel_off (w : World) (d s : Nat) (dk : DkS) (st : ShS) (F : Nat → Prop) (h : SD w d s dk st F) (G : Good dk st) (root : Int) (h0 : root ≠ 0) (H : Nat) (F0 : List Mk) (P0 : List Int) (ht : IsT (Rn dk) H root F0 P0) (hs : SortM F0) (hl : LiveL st P0) (h9 : H ≤ 9) (key : Int) (hk : 0 ≤ key ∧ key ≤ 18446744073709551615) (hno : getB key (entsM F0) = false) :
  Calls Tryz.prog 18 #[.pointer (some ⟨s, 0, none⟩), .int .i64 root, .int .u64 key] w fun e w' => e = .returned (.tuple #[.int .i64 root, .bool false, .int .i64 0]) ∧ SDPost w d s dk st F w' := by
 have HNO := Lib.hid hno
 clear hno
 have h0' : (root == 0) = false := by rw [beq_eq_false_iff_ne]; exact h0
 obtain ⟨FV, hFV⟩ : ∃ FV, FV = (fun k => F k ∨ k = w.heap.size) := ⟨_, rfl⟩
 have hvis : TS (w.alloc (visO s 0)) d s w.heap.size dk st 0 FV := by rw [hFV]; exact h.visit
 have HL := Lib.hid hvis.lt
 have DN := Lib.hid (down_is (w.alloc (visO s 0)) d s w.heap.size dk st 0 FV hvis G root H F0 P0 ht hs h9 (by omega) key hk)
 have HG := Lib.hid G
 have HSS := Lib.hid hs
 have HLV := Lib.hid hl
 have HH9 := Lib.hid h9
 have HTI : Hid (TreeI dk st root (entsM F0)) := Lib.hid (.inr ⟨H, F0, P0, ht, hs, rfl, hl⟩)
 have HENDS : Hid (∀ dk' st' r' w', TSPost (w.alloc (visO s 0)) d s w.heap.size dk' st' r' FV w' → SDPost w d s dk' st' F w') := Lib.hid (fun dk' st' r' w' hp => by rw [hFV] at hp; exact TSPost.ends (dk := dk) (st := st) hp)
 obtain ⟨w0, hw0⟩ : ∃ w0, w.alloc (visO s 0) = w0 := ⟨_, rfl⟩
 obtain ⟨g, hg⟩ : ∃ g, w.heap.size = g := ⟨_, rfl⟩
 have hgF : FV g := by rw [hFV, ← hg]; exact .inr rfl
 rw [hw0] at HL DN HENDS
 rw [hg] at DN HENDS
 have HGF := Lib.hid hgF
 clear h G ht hs hl h9 h0 hk hFV hgF hvis
 have hw9 : w.alloc (.cells #[.pointer (some ⟨s, 0, none⟩), .int .i64 0, .int .i64 0] 88) = w0 := hw0
 have HW9 := Lib.hid hw9
 have HG9 := Lib.hid hg
 clear hw0 hw9 hg
 go_enter Tryz.func18, Tryz.ntmps18
 go_upto_region 4 with fail
 rw [HW9.out, HG9.out]
 clear HW9 HG9
 go_wp2_with fail
 refine DN.out.mono ?_
 rintro e w1 ⟨v, fs, xs, x, M, i, fd, FL, FR, Fh, PC, hi, rfl, hD⟩
 obtain ⟨va, vc, rfl, _, _⟩ := own_shape7 hD.own
 obtain ⟨vn, hvn⟩ : ∃ vn, (xs.reverse ++ [x]).length = vn := ⟨_, rfl⟩
 have W2 : Way (w1.alloc (.cells #[.slice va (xs.reverse ++ [x]).length vc] 92)) w1.heap.size (xs.reverse ++ [x]) (WF w1.heap.size (.slice va (xs.reverse ++ [x]).length vc)) :=
  ⟨_, ⟨heap_alloc_new w1 _, own_frmZ (F := fun _ => False) hD.own ((Frm.refl _ w1).alloc _) (fun _ _ hx => hx), fun e => by have := (hD.own.lt _ e).2; omega⟩, fun _ => Iff.rfl⟩
 have PO := Lib.hid (way_pop _ w1.heap.size xs.reverse x _ W2)
 have gl := get_leaf hD.nt (by rw [hD.eF]; exact HSS.out) hD.bL hD.bR hD.fn
 rw [hD.eF] at gl
 have GL := Lib.hid gl
 have HD := Lib.hid hD
 have XF := Lib.hid hD.xf
 have XI := Lib.hid hD.xi
 rw [hvn] at PO HD ⊢
 clear hD W2 hvn gl
 go_wp2_with fail
 refine PO.out.mono ?_
 rintro e w3 ⟨rfl, hw3, hf3⟩
 have hP := popS_of HL.out HGF.out HD.out hw3 hf3
 unfold StepV.val
 go_upto_region 8 with fail
 obtain ⟨w4, hw4⟩ : ∃ w4, w3.alloc (.cells #[.int .i64 x.p, .int .i64 x.i, .bool x.fd, .bool x.lf, .slice x.ak x.lk x.ck, .slice x.av x.lv x.cv, .slice x.ac x.lc x.cc] 99) = w4 := ⟨_, rfl⟩
 obtain ⟨bs, hbs⟩ : ∃ bs, w3.heap.size = bs := ⟨_, rfl⟩
 obtain ⟨bw, hbw⟩ : ∃ bw, w1.heap.size = bw := ⟨_, rfl⟩
 rw [hw4, hbs, hbw] at hP
 try rw [hw4]
 try rw [hbs]
 try rw [hbw]
 have X4 := hP.box
 have HP := Lib.hid hP
 rw [XF.out, XI.out] at X4
 clear hw4 hbs hbw hw3 hf3 PO DN hP XF XI
 rcases GL.out with ⟨rfl, val, hv, hget⟩ | ⟨rfl, hget⟩
 ·exfalso
  have e2 : getB key (entsM F0) = true := by unfold getB; rw [hget]; rfl
  rw [HNO.out] at e2
  cases e2
 ·have FIN : Hid (SDPost w d s dk st F w4) := Lib.hid (HENDS.out dk st _ w4 ⟨FV, HP.out.ts, HP.out.fr, fun k hk => .inl hk⟩)
  obtain ⟨d0, d1, d2, d3, d4, d5, d6⟩ := cells7 X4
  clear X4 hget
  go_wp2_with fail
  go_ret3
  exact ⟨rfl, FIN.out⟩
def TrQ (w0 : World) (R : List Nat) (w : World) (d s n : Nat) (root : Int) (E : List Ent) (dk : DkS) (st : ShS) : Prop :=
 Below w0.heap.size w0 w ∧ ∃ F, (SD w d s dk st F ∧ Good dk st ∧ TreeI dk st root E ∧ dk.S.length = n ∧ st.h = fmtH) ∧ (∀ k, F k → w0.heap.size ≤ k) ∧ ∀ k ∈ R, k < w.heap.size ∧ ¬ F k
theorem TrR.q {w0 : World} {R : List Nat} {w : World} {d s n : Nat} {root : Int} {E : List Ent} (h : TrR w0 R w d s n root E) : ∃ dk st, TrQ w0 R w d s n root E dk st := by
 obtain ⟨h1, F, ⟨dk, st, h2⟩, h3⟩ := h
 exact ⟨dk, st, h1, F, h2, h3⟩
theorem TrQ.r {w0 : World} {R : List Nat} {w : World} {d s n : Nat} {root : Int} {E : List Ent} {dk : DkS} {st : ShS} (h : TrQ w0 R w d s n root E dk st) : TrR w0 R w d s n root E := by
 obtain ⟨h1, F, h2, h3⟩ := h
 exact ⟨h1, F, ⟨dk, st, h2⟩, h3⟩
theorem TrQ.below {w0 : World} {R : List Nat} {w w' : World} {d s n : Nat} {root : Int} {E : List Ent} {dk : DkS} {st : ShS} (h : TrQ w0 R w d s n root E dk st) (hb : Below w.heap.size w w') : TrQ w0 R w' d s n root E dk st := by
 obtain ⟨h1, F, ⟨h2, hr⟩, h3, h4⟩ := h
 exact ⟨h1.trans (hb.mono h1.size), F, ⟨h2.below hb, hr⟩, h3, fun k hk => ⟨Nat.lt_of_lt_of_le (h4 k hk).1 hb.size, (h4 k hk).2⟩⟩
theorem left_Q {w0 : World} {R : List Nat} {w : World} {d s n : Nat} {root : Int} {E : List Ent} {dk : DkS} {st : ShS} (h : TrQ w0 R w d s n root E dk st) :
  Calls Tryz.prog 21 #[.pointer (some ⟨s, 0, none⟩)] w fun e w' => e = .returned (.int .i64 (leftN st dk.S.length)) ∧ Below w.heap.size w w' := by
 obtain ⟨hb, F, ⟨⟨FD, FS, h1, he⟩, _⟩, _⟩ := h
 exact left_is w s d dk st FD FS h1.dk h1.sto
theorem delOff_Q {w0 : World} {R : List Nat} {w : World} {d s n : Nat} {root : Int} {E : List Ent} {dk : DkS} {st : ShS} (h : TrQ w0 R w d s n root E dk st) (hE : E.length ≤ 600) (key : Int) (hk : 0 ≤ key ∧ key ≤ 18446744073709551615) (hno : getB key E = false) :
  Calls Tryz.prog 18 #[.pointer (some ⟨s, 0, none⟩), .int .i64 root, .int .u64 key] w fun e w' => e = .returned (.tuple #[.int .i64 root, .bool false, .int .i64 0]) ∧ TrQ w0 R w' d s n root E dk st ∧ KeptL R w w' := by
 have h' := h
 obtain ⟨hb, F, ⟨h1, G, ht, hl, hh⟩, hF, hR⟩ := h
 by_cases h0 : root = 0
 ·subst h0
  exact (tdel_nil w s key).mono fun e w' hq => ⟨hq.1, h'.below hq.2, fun k hk => hq.2.block k (hR k hk).1⟩
 ·obtain ⟨hh', F0, P0, hi, hs, rfl, hl', h9⟩ := ht.rootN h0 hE
  refine (tdel_off w d s dk st F h1 G root h0 hh' F0 P0 hi hs hl' h9 key hk hno).mono ?_
  rintro e w' ⟨rfl, F', f1, f2, f3⟩
  refine ⟨rfl, ⟨hb.trans (f2.below hF hb.size), F', ⟨f1, G, ht, hl, hh⟩, fun k hk => (f3 k hk).elim (hF k) (fun hx => Nat.le_trans hb.size hx), fun k hk => ⟨Nat.lt_of_lt_of_le (hR k hk).1 f2.size, fun hx => ?_⟩⟩, fun k hk => f2.block k (hR k hk).1 (hR k hk).2⟩
  rcases f3 k hx with h4 | h4
  ·exact (hR k hk).2 h4
  ·have := (hR k hk).1; omega
set_option maxHeartbeats 12800000 in
set_option maxRecDepth 20000 in
theorem treeStops_law (a : Option Addr) (len cap : Nat) (zs : List Int) (a1 a2 : Int) (w : World) (hk : IsInts .i64 w a len cap zs) (v1 : (Lit.int .u8 a1).wf = true) (v2 : (Lit.int .u64 a2).wf = true) :
  Calls Tryz.prog 8 #[.slice a len cap, .int .u8 a1, .int .u64 a2] w fun e w' => e = .returned (.bool true) ∧ Below w.heap.size w w' := by
 have BG := Lib.hid (fun w => begins_is w 100 (by decide) (by decide))
 have HA2 : Hid (0 ≤ a2 ∧ a2 ≤ 18446744073709551615) := Lib.hid (by
  simp [Lit.wf] at v2
  have h1 : IntKind.u64.min = 0 := by rfl
  have h2 : IntKind.u64.max = 18446744073709551615 := by rfl
  omega)
 have hv1 : 0 ≤ a1 ∧ a1 ≤ 255 := by
  simp [Lit.wf] at v1
  have h1 : IntKind.u8.min = 0 := by rfl
  have h2 : IntKind.u8.max = 255 := by rfl
  omega
 obtain ⟨q, hq⟩ : ∃ q : Nat, 41 + a1 = (q : Int) := ⟨(41 + a1).toNat, by omega⟩
 have hc1 : IntKind.i64.wrap a1 = a1 := IntWalk.i64_in _ (by omega)
 have hc2 : IntKind.i64.wrap (41 + a1) = (q : Int) := by rw [hq]; exact IntWalk.i64_in _ (by omega)
 have HQ : Hid (41 ≤ q ∧ q ≤ 300) := Lib.hid (by omega)
 obtain ⟨Z, hZ⟩ : ∃ Z, Str (List.replicate q (0 : UInt8)) = Z := ⟨_, rfl⟩
 have HZ := Lib.hid hZ
 have HZL : Hid (40 < Z.size) := Lib.hid (by rw [← hZ, Str_size, List.length_replicate]; have := HQ.out; omega)
 have CELLS := Lib.hid (int_cellA hk)
 have hlenL := ints_len hk
 clear v1 v2 hk hv1 hq hZ
 go_enter Tryz.func8, Tryz.ntmps8
 try simp only [List.append_eq, List.cons_append, List.nil_append]
 go_wp2_with fail
 refine (examples_yes11 _).mono ?_
 rintro e w1 ⟨rfl, b1⟩
 have B1 := Lib.hid b1
 clear b1
 go_wp2_with fail
 refine (BG.out _).mono ?_
 rintro e w2 ⟨b, d, x', s, r', rfl, hcb, hlo, htr⟩
 have hmm : (Instr.makeMap 60 none).run Tryz.prog w2 = .ok (.map (some w2.heap.size)) (w2.alloc (.map #[] 0)) := by simp [Instr.makeMap]
 obtain ⟨m, hm⟩ : ∃ m, w2.heap.size = m := ⟨_, rfl⟩
 obtain ⟨w3, hw3⟩ : ∃ w3, w2.alloc (.map #[] 0) = w3 := ⟨_, rfl⟩
 have HI0 : Hid (EmI w1 w3 100 b d x' s r' m (.slice none 0 0) [] [] none [] 0) := by
  have hb3 : Below w2.heap.size w2 w3 := by rw [← hw3]; exact below_made _ _
  have hsz := htr.size.size
  have hbl := htr.lt b (by simp)
  refine Lib.hid ⟨(htr.more hb3 m (by omega) (by rw [← hw3, ← hm]; simp)), (hb3.block _ hbl).trans hcb, ⟨#[], 0, by rw [← hw3, ← hm]; exact heap_alloc_new _ _, rfl⟩, World.ownsRow_nil _ _ _ _, List.nodup_nil, fun x => ?_, fun k hk => (by cases hk), ⟨by omega, hlo, by omega⟩, fun k hk => (by cases hk)⟩
  simp [keysE]
 rw [hw3, hm] at hmm
 clear hcb hlo htr BG hw3 hm
 go_wp2_with fail
 go_loopw [11, 12, 13] (fun i _ _ wr => ∃ (j : Nat) (K : List Int) (E : List Ent) (root : Int), j ≤ len ∧ j ≤ 20 ∧ i = .int .i64 (j : Int) ∧ Hid (E.length ≤ j) ∧ Hid (EmI w1 wr 100 b d x' s r' m (.slice none 0 0) K [] none E root)) (fun i _ _ _ => 21 - (intOf i).toNat)
 case atStart => exact ⟨0, [], [], 0, Nat.zero_le _, Nat.zero_le _, rfl, Lib.hid (Nat.le_refl _), HI0⟩
 case round =>
  obtain ⟨j, K, E, root, hj1, hj2, rfl, HLN, HI⟩ := hrel
  by_cases hjl : j < len
  ·have hjli : (j : Int) < (len : Int) := by omega
   by_cases hlt : j < 20
   ·have hli : (j : Int) < 20 := by omega
    obtain ⟨x, z, hax, _, ⟨hz1, hz2⟩, CELL⟩ := CELLS.out j hjl
    subst hax
    have HJ0 : Hid (-9223372036854775808 ≤ (j : Int)) := Lib.hid (by omega)
    have HJ1 : Hid ((j : Int) ≤ 9223372036854775807) := Lib.hid (by omega)
    have HJL : Hid (j + 1 ≤ len ∧ j + 1 ≤ 20) := Lib.hid ⟨by omega, by omega⟩
    have HE5 : Hid (E.length < 2 ^ (4 + 1)) := Lib.hid (by have := HLN.out; omega)
    have HN5 : Hid (2 * E.length + 2 * 4 + 5 ≤ 100) := Lib.hid (by have := HLN.out; omega)
    have e4 : IntKind.i64.wrap ((j : Int) + 1) = ((j + 1 : Nat) : Int) := by rw [show (j : Int) + 1 = ((j + 1 : Nat) : Int) by omega]; exact IntWalk.i64_in _ (by omega)
    have TT := Lib.hid (And.intro (HI.out.tr.below (Below.refl _ _).drew) (show KeptL ((Value.slice none 0 0).ownBlock.toList ++ [m, b]) wr wr.drew from fun _ _ => rfl))
    clear hj1 hj2 hjl hlt
    go_upto_region 11 with fail
    refine wp_region_held_drew (S := fun w' => Below w1.heap.size w1 w' ∧ w'.heap[b]? = some (.cells #[.pointer (some ⟨d, 0, none⟩), .pointer (some ⟨x', 0, none⟩), .pointer (some ⟨s, 0, none⟩), .pointer (some ⟨r', 0, none⟩), .int .i64 root] 39)) (by kernel_rfl) ⟨TT.out.1.size, HI.out.cb⟩ (fun hS => ?_)
    refine ht (i := 0) 44 (v := ?va0x1) rfl rfl (by kernel_rfl) (fun _ _ _ h => h) hS (by rfl) ?ha0x1 ?_
    case ha0x1 =>
     intro w9 s9
     clear s9
     go_simp
     try (with_reducible rfl)
    simp only [SL]
    refine ht (i := 1) 45 (v := ?va1x2) rfl rfl (by kernel_rfl) (fun _ _ _ h => h) hS (by rfl) ?ha1x2 ?_
    case ha1x2 =>
     intro w9 s9
     clear s9
     go_simp
     try (with_reducible rfl)
    simp only [SL]
    refine ht (i := 2) 46 (v := ?va2x3) rfl rfl (by kernel_rfl) (fun _ _ _ h => h) hS (by rfl) ?ha2x3 ?_
    case ha2x3 =>
     intro w9 s9
     clear s9
     go_simp
     try (with_reducible rfl)
    simp only [SL]
    refine ht (i := 3) 47 (v := ?va3x4) rfl rfl (by kernel_rfl) (fun _ _ _ h => h) hS (by rfl) ?ha3x4 ?_
    case ha3x4 =>
     intro w9 s9
     obtain ⟨q0, q1, q2, q3, q4, _⟩ := cells5 s9.2
     clear s9
     go_simp
     try (with_reducible rfl)
    simp only [SL]
    refine ht (i := 4) 48 (v := ?va4x5) rfl rfl (by kernel_rfl) (fun _ _ _ h => h) hS (by rfl) ?ha4x5 ?_
    case ha4x5 =>
     intro w9 s9
     clear s9
     go_simp
     try (with_reducible rfl)
    simp only [SL]
    refine ht (i := 5) 49 (v := ?va5x6) rfl rfl (by kernel_rfl) (fun _ _ _ h => h) hS (by rfl) ?ha5x6 ?_
    case ha5x6 =>
     intro w9 s9
     clear s9
     go_simp
     try (with_reducible rfl)
    simp only [SL]
    refine ht (i := 6) 50 (v := ?va6x7) rfl rfl (by kernel_rfl) (fun _ _ _ h => h) hS (by rfl) ?ha6x7 ?_
    case ha6x7 =>
     intro w9 s9
     clear s9
     go_simp
     try (with_reducible rfl)
    simp only [SL]
    refine ht (i := 7) 51 (v := ?va7x8) rfl rfl (by kernel_rfl) (fun _ _ _ h => h) hS (by rfl) ?ha7x8 ?_
    case ha7x8 =>
     intro w9 s9
     obtain ⟨q0, q1, q2, q3, q4, _⟩ := cells5 s9.2
     clear s9
     go_simp
     try (with_reducible rfl)
    simp only [SL]
    refine ht (i := 8) 52 (v := ?va8x9) rfl rfl (by kernel_rfl) (fun _ _ _ h => h) hS (by rfl) ?ha8x9 ?_
    case ha8x9 =>
     intro w9 s9
     clear s9
     go_simp
     try (with_reducible rfl)
    simp only [SL]
    refine ht (i := 9) 53 (v := ?va9x10) rfl rfl (by kernel_rfl) (fun _ _ _ h => h) hS (by rfl) ?ha9x10 ?_
    case ha9x10 =>
     intro w9 s9
     clear s9
     go_simp
     try (with_reducible rfl)
    simp only [SL]
    refine ht (i := 10) 54 (v := ?va10x11) rfl rfl (by kernel_rfl) (fun _ _ _ h => h) hS (by rfl) ?ha10x11 ?_
    case ha10x11 =>
     intro w9 s9
     clear s9
     go_simp
     try (with_reducible rfl)
    simp only [SL]
    refine ht (i := 11) 55 (v := ?va11x12) rfl rfl (by kernel_rfl) (fun _ _ _ h => h) hS (by rfl) ?ha11x12 ?_
    case ha11x12 =>
     intro w9 s9
     have ca := CELL.out w9 (chain B1.out s9.1)
     clear s9
     go_simp
     try (with_reducible rfl)
    simp only [SL]
    refine ht (i := 13) 57 (v := ?va13x13) rfl rfl (by kernel_rfl) (fun _ _ _ h => h) hS (by rfl) ?ha13x13 ?_
    case ha13x13 =>
     intro w9 s9
     clear s9
     go_simp
     try (with_reducible rfl)
    simp only [SL]
    refine held_step (i := 12) rfl (by kernel_rfl) (fun K hK => ?_)
    have HK := Lib.hid hK
    clear hK
    go_simp
    go_wp2_with fail
    refine (key_is _ z hz1 hz2).mono ?_
    rintro e w6 ⟨rfl, b6⟩
    refine HK.out _ _ ?_ ?_
    ·exact ⟨chain hS.1 b6, (b6.block _ (Array.getElem?_eq_some_iff.1 hS.2).1).trans hS.2⟩
    clear HK K
    try simp only [Act.put, SL]
    have hS' := And.intro (chain hS.1 b6) ((b6.block _ (Array.getElem?_eq_some_iff.1 hS.2).1).trans hS.2)
    clear hS
    have hS := hS'
    clear hS'
    have TTn := Lib.hid (And.intro (TT.out.1.below b6) (TT.out.2.trans (TT.out.1.kept b6)))
    clear TT b6
    have TT := TTn
    clear TTn
    refine held_step (i := 14) rfl (by kernel_rfl) (fun K hK => ?_)
    have HK := Lib.hid hK
    clear hK
    go_simp
    go_wp2_with fail
    refine (value_is _ (j : Int) HJ0.out HJ1.out).mono ?_
    rintro e w6 ⟨rfl, b6⟩
    refine HK.out _ _ ?_ ?_
    ·exact ⟨chain hS.1 b6, (b6.block _ (Array.getElem?_eq_some_iff.1 hS.2).1).trans hS.2⟩
    clear HK K
    try simp only [Act.put, SL]
    have hS' := And.intro (chain hS.1 b6) ((b6.block _ (Array.getElem?_eq_some_iff.1 hS.2).1).trans hS.2)
    clear hS
    have hS := hS'
    clear hS'
    have TTn := Lib.hid (And.intro (TT.out.1.below b6) (TT.out.2.trans (TT.out.1.kept b6)))
    clear TT b6
    have TT := TTn
    clear TTn
    refine held_step (i := 15) rfl (by kernel_rfl) (fun K hK => ?_)
    have HK := Lib.hid hK
    clear hK
    go_simp
    go_wp2_with fail
    refine (put_R TT.out.1 4 (by decide) HE5.out HN5.out _ (lawK_ok z) _ (lawV_size _)).mono ?_
    rintro e w6 ⟨q, rfl, hT, hK⟩
    refine HK.out _ _ ?_ ?_
    ·exact ⟨hT.size, (hK b (by simp)).trans hS.2⟩
    clear HK K
    try simp only [Act.put, SL]
    have hS' := And.intro hT.size ((hK b (by simp)).trans hS.2)
    clear hS
    have hS := hS'
    clear hS'
    have TTn := Lib.hid (And.intro hT (TT.out.2.trans hK))
    clear TT hT hK
    have TT := TTn
    clear TTn
    refine ht (i := 16) 43 (v := ?va16x14) rfl rfl (by kernel_rfl) (fun _ _ _ h => h) hS (by rfl) ?ha16x14 ?_
    case ha16x14 =>
     intro w9 s9
     clear s9
     go_simp
     try (with_reducible rfl)
    simp only [SL]
    refine ht (i := 17) 60 (v := ?va17x15) rfl rfl (by kernel_rfl) (fun _ _ _ h => h) hS (by rfl) ?ha17x15 ?_
    case ha17x15 =>
     intro w9 s9
     clear s9
     go_simp
     try (with_reducible rfl)
    simp only [SL]
    refine ht (i := 18) 61 (v := ?va18x16) rfl rfl (by kernel_rfl) (fun _ _ _ h => h) hS (by rfl) ?ha18x16 ?_
    case ha18x16 =>
     intro w9 s9
     clear s9
     go_simp
     try (with_reducible rfl)
    simp only [SL]
    refine ht (i := 19) 12 (v := ?va19x17) rfl rfl (by kernel_rfl) (fun _ _ _ h => h) hS (by rfl) ?ha19x17 ?_
    case ha19x17 =>
     intro w9 s9
     clear s9
     go_simp
     try (with_reducible rfl)
    simp only [SL]
    refine ht (i := 20) 13 (v := ?va20x18) rfl rfl (by kernel_rfl) (fun _ _ _ h => h) hS (by rfl) ?ha20x18 ?_
    case ha20x18 =>
     intro w9 s9
     clear s9
     go_simp
     try (with_reducible rfl)
    simp only [SL]
    refine wpAnyH_done (by kernel_rfl) ?_ _
    obtain ⟨_, _, _, _, p4, pf⟩ := cells5 hS.2
    have pf4 := pf 4
    obtain ⟨w7, hw7⟩ : ∃ w7, w6.setCell ⟨b, 4, none⟩ (.int .i64 q) = w7 := ⟨_, rfl⟩
    have OW7 := Lib.hid (HI.out.put TT.out.1 TT.out.2 hw7)
    clear TT hS HI
    go_upto_region 15 with fail
    try rw [hw7]
    clear hw7 p4 pf pf4
    have ca7 := CELL.out w7 (chain B1.out OW7.out.tr.size)
    go_wp2_with fail
    refine (key_is _ z hz1 hz2).mono ?_
    rintro e wb ⟨rfl, bb⟩
    have OWb := Lib.hid (OW7.out.below bb)
    clear bb OW7 ca7
    obtain ⟨wc, hmu, hmp, _, _, hmf⟩ := updateWB (P := Tryz.prog) Tryz.underlying60 Tryz.underlying28 OWb.out.mp (lawK z) (.bool true)
    have FIN := Lib.hid (OWb.out.mapped hmp hmf)
    have LEN : Hid ((insE (lawK z) (lawV (j : Int)) E).length ≤ j + 1) := Lib.hid (by have := HLN.out; have := insE_len (lawK z) (lawV (j : Int)) E; omega)
    clear hmp hmf OWb
    go_wp2_with fail
    go_roundw
    case rel => exact ⟨j + 1, _, _, _, HJL.out.1, HJL.out.2, rfl, LEN, FIN⟩
    case measure => have := HJL.out; simp [intOf]; omega
   ·have hli : ¬ (j : Int) < 20 := by omega
    clear hlt hjl
    have HK2 := Lib.hid HA2.out
    obtain ⟨dk, st, hq⟩ := HI.out.tr.q
    have HQ0 := Lib.hid hq
    have HKE := Lib.hid HI.out.ke
    have HMP := Lib.hid HI.out.mp
    have HCB := Lib.hid HI.out.cb
    have HE6 : Hid (E.length ≤ 600) := Lib.hid (by have := HLN.out; omega)
    obtain ⟨q0, q1, q2, q3, q4, _⟩ := cells5 HI.out.cb
    obtain ⟨LV, hlv⟩ : ∃ LV, leftN st dk.S.length = LV := ⟨_, rfl⟩
    have LQ := left_Q hq
    rw [hlv] at LQ
    have LQH := Lib.hid LQ
    clear HI HLN hq LQ hj1 hj2
    go_wp2_with fail
    refine LQH.out.mono ?_
    rintro e w5 ⟨rfl, b5⟩
    have TT := Lib.hid (And.intro (HQ0.out.below b5) (HMP.out.below b5))
    have HS5 : Hid (Below w1.heap.size w1 w5 ∧ w5.heap[b]? = some (.cells #[.pointer (some ⟨d, 0, none⟩), .pointer (some ⟨x', 0, none⟩), .pointer (some ⟨s, 0, none⟩), .pointer (some ⟨r', 0, none⟩), .int .i64 root] 39)) := Lib.hid ⟨TT.out.1.r.size, (b5.block _ (Array.getElem?_eq_some_iff.1 HCB.out).1).trans HCB.out⟩
    clear b5 HQ0 HMP HCB LQH q0 q1 q2 q3 q4
    have TT1 := Lib.hid (And.intro (TT.out.1.below (Below.refl _ _).drew) (TT.out.2.below (Below.refl _ _).drew))
    clear TT
    have TT := TT1
    clear TT1
    go_upto_region 17 with fail
    refine wp_region_held_drew (S := fun w' => Below w1.heap.size w1 w' ∧ w'.heap[b]? = some (.cells #[.pointer (some ⟨d, 0, none⟩), .pointer (some ⟨x', 0, none⟩), .pointer (some ⟨s, 0, none⟩), .pointer (some ⟨r', 0, none⟩), .int .i64 root] 39)) (by kernel_rfl) ⟨HS5.out.1.drew, HS5.out.2⟩ (fun hS => ?_)
    refine ht (i := 0) 80 (v := ?vch0x1) rfl rfl (by kernel_rfl) (fun _ _ _ h => h) hS (by rfl) ?hch0x1 ?_
    case hch0x1 =>
     intro w9 s9
     clear s9
     go_simp
     try (with_reducible rfl)
    simp only [SL]
    refine ht (i := 1) 81 (v := ?vch1x2) rfl rfl (by kernel_rfl) (fun _ _ _ h => h) hS (by rfl) ?hch1x2 ?_
    case hch1x2 =>
     intro w9 s9
     clear s9
     go_simp
     try (with_reducible rfl)
    simp only [SL]
    refine ht (i := 2) 82 (v := ?vch2x3) rfl rfl (by kernel_rfl) (fun _ _ _ h => h) hS (by rfl) ?hch2x3 ?_
    case hch2x3 =>
     intro w9 s9
     clear s9
     go_simp
     try (with_reducible rfl)
    simp only [SL]
    refine ht (i := 3) 83 (v := ?vch3x4) rfl rfl (by kernel_rfl) (fun _ _ _ h => h) hS (by rfl) ?hch3x4 ?_
    case hch3x4 =>
     intro w9 s9
     obtain ⟨q0, q1, q2, q3, q4, _⟩ := cells5 s9.2
     clear s9
     go_simp
     try (with_reducible rfl)
    simp only [SL]
    refine ht (i := 4) 84 (v := ?vch4x5) rfl rfl (by kernel_rfl) (fun _ _ _ h => h) hS (by rfl) ?hch4x5 ?_
    case hch4x5 =>
     intro w9 s9
     clear s9
     go_simp
     try (with_reducible rfl)
    simp only [SL]
    refine ht (i := 5) 85 (v := ?vch5x6) rfl rfl (by kernel_rfl) (fun _ _ _ h => h) hS (by rfl) ?hch5x6 ?_
    case hch5x6 =>
     intro w9 s9
     clear s9
     go_simp
     try (with_reducible rfl)
    simp only [SL]
    refine ht (i := 6) 86 (v := ?vch6x7) rfl rfl (by kernel_rfl) (fun _ _ _ h => h) hS (by rfl) ?hch6x7 ?_
    case hch6x7 =>
     intro w9 s9
     clear s9
     go_simp
     try (with_reducible rfl)
    simp only [SL]
    refine ht (i := 7) 87 (v := ?vch7x8) rfl rfl (by kernel_rfl) (fun _ _ _ h => h) hS (by rfl) ?hch7x8 ?_
    case hch7x8 =>
     intro w9 s9
     obtain ⟨q0, q1, q2, q3, q4, _⟩ := cells5 s9.2
     clear s9
     go_simp
     try (with_reducible rfl)
    simp only [SL]
    refine ht (i := 8) 88 (v := ?vch8x9) rfl rfl (by kernel_rfl) (fun _ _ _ h => h) hS (by rfl) ?hch8x9 ?_
    case hch8x9 =>
     intro w9 s9
     clear s9
     go_simp
     try (with_reducible rfl)
    simp only [SL]
    refine ht (i := 9) 89 (v := ?vch9x10) rfl rfl (by kernel_rfl) (fun _ _ _ h => h) hS (by rfl) ?hch9x10 ?_
    case hch9x10 =>
     intro w9 s9
     clear s9
     go_simp
     try (with_reducible rfl)
    simp only [SL]
    refine ht (i := 10) 90 (v := ?vch10x11) rfl rfl (by kernel_rfl) (fun _ _ _ h => h) hS (by rfl) ?hch10x11 ?_
    case hch10x11 =>
     intro w9 s9
     clear s9
     go_simp
     try (with_reducible rfl)
    simp only [SL]
    refine ht (i := 11) 91 (v := ?vch11x12) rfl rfl (by kernel_rfl) (fun _ _ _ h => h) hS (by rfl) ?hch11x12 ?_
    case hch11x12 =>
     intro w9 s9
     clear s9
     go_simp
     try (with_reducible rfl)
    simp only [SL]
    refine held_step (i := 12) rfl (by kernel_rfl) (fun K hK => ?_)
    have HK := Lib.hid hK
    clear hK
    go_simp
    obtain ⟨w6, hmk, hrow, b6⟩ := made_bytes w5.drew q q (Nat.le_refl _) (by have := HQ.out; omega)
    have hmk' : (Instr.makeSlice 62 (.int .i64 (q : Int)) (.int .i64 (q : Int))).run Tryz.prog w5.drew = .ok (.slice (some ⟨w5.heap.size, 0, none⟩) q q) w6 := hmk
    clear hmk
    go_simp
    refine HK.out _ _ ?_ ?_
    ·exact ⟨chain hS.1 b6, (b6.block _ (Array.getElem?_eq_some_iff.1 hS.2).1).trans hS.2⟩
    clear HK K
    try simp only [Act.put, SL]
    clear hmk'
    have hS' := And.intro (chain hS.1 b6) ((b6.block _ (Array.getElem?_eq_some_iff.1 hS.2).1).trans hS.2)
    clear hS
    have hS := hS'
    clear hS'
    have TTn := Lib.hid (And.intro (TT.out.1.below b6) (TT.out.2.below b6))
    clear TT b6
    have TT := TTn
    clear TTn
    have ROW := Lib.hid hrow
    clear hrow
    refine held_step (i := 13) rfl (by kernel_rfl) (fun K hK => ?_)
    have HK := Lib.hid hK
    clear hK
    go_simp
    have hcv := ROW.out.conv q q (by rw [List.length_replicate]; exact Nat.le_refl _)
    rw [List.take_of_length_le (by rw [List.length_replicate]; exact Nat.le_refl _), HZ.out] at hcv
    have hcv' : (convert 62 9 (.slice (some ⟨w5.heap.size, 0, none⟩) q q)).run Tryz.prog w6 = .ok (.string Z) w6 := hcv
    clear hcv
    go_simp
    refine HK.out _ _ ?_ ?_
    ·exact hS
    clear HK K
    try simp only [Act.put, SL]
    clear hcv' ROW
    refine held_step (i := 14) rfl (by kernel_rfl) (fun K hK => ?_)
    have HK := Lib.hid hK
    clear hK
    go_simp
    go_wp2_with fail
    refine (tput_long _ s root a2 Z HZL.out).mono ?_
    rintro e w7 ⟨rfl, b6⟩
    refine HK.out _ _ ?_ ?_
    ·exact ⟨chain hS.1 b6, (b6.block _ (Array.getElem?_eq_some_iff.1 hS.2).1).trans hS.2⟩
    clear HK K
    try simp only [Act.put, SL]
    have hS' := And.intro (chain hS.1 b6) ((b6.block _ (Array.getElem?_eq_some_iff.1 hS.2).1).trans hS.2)
    clear hS
    have hS := hS'
    clear hS'
    have TTn := Lib.hid (And.intro (TT.out.1.below b6) (TT.out.2.below b6))
    clear TT b6
    have TT := TTn
    clear TTn
    refine ht (i := 15) 79 (v := ?vch15x13) rfl rfl (by kernel_rfl) (fun _ _ _ h => h) hS (by rfl) ?hch15x13 ?_
    case hch15x13 =>
     intro w9 s9
     clear s9
     go_simp
     try (with_reducible rfl)
    simp only [SL]
    refine ht (i := 16) 95 (v := ?vch16x14) rfl rfl (by kernel_rfl) (fun _ _ _ h => h) hS (by rfl) ?hch16x14 ?_
    case hch16x14 =>
     intro w9 s9
     clear s9
     go_simp
     try (with_reducible rfl)
    simp only [SL]
    refine ht (i := 17) 96 (v := ?vch17x15) rfl rfl (by kernel_rfl) (fun _ _ _ h => h) hS (by rfl) ?hch17x15 ?_
    case hch17x15 =>
     intro w9 s9
     clear s9
     go_simp
     try (with_reducible rfl)
    simp only [SL]
    refine ht (i := 18) 15 (v := ?vch18x16) rfl rfl (by kernel_rfl) (fun _ _ _ h => h) hS (by rfl) ?hch18x16 ?_
    case hch18x16 =>
     intro w9 s9
     clear s9
     go_simp
     try (with_reducible rfl)
    simp only [SL]
    refine ht (i := 19) 16 (v := ?vch19x17) rfl rfl (by kernel_rfl) (fun _ _ _ h => h) hS (by rfl) ?hch19x17 ?_
    case hch19x17 =>
     intro w9 s9
     clear s9
     go_simp
     try (with_reducible rfl)
    simp only [SL]
    refine wpAnyH_done (by kernel_rfl) ?_ _
    have HS7 := Lib.hid hS
    clear hS
    have TT1 := Lib.hid (And.intro (TT.out.1.below (Below.refl _ _).drew) (TT.out.2.below (Below.refl _ _).drew))
    clear TT
    have TT := TT1
    clear TT1
    go_upto_region 18 with fail
    refine wp_region_held_drew (S := fun w' => Below w1.heap.size w1 w' ∧ w'.heap[b]? = some (.cells #[.pointer (some ⟨d, 0, none⟩), .pointer (some ⟨x', 0, none⟩), .pointer (some ⟨s, 0, none⟩), .pointer (some ⟨r', 0, none⟩), .int .i64 root] 39)) (by kernel_rfl) ⟨HS7.out.1.drew, HS7.out.2⟩ (fun hS => ?_)
    refine ht (i := 0) 98 (v := ?vcg0x1) rfl rfl (by kernel_rfl) (fun _ _ _ h => h) hS (by rfl) ?hcg0x1 ?_
    case hcg0x1 =>
     intro w9 s9
     clear s9
     go_simp
     try (with_reducible rfl)
    simp only [SL]
    refine ht (i := 1) 99 (v := ?vcg1x2) rfl rfl (by kernel_rfl) (fun _ _ _ h => h) hS (by rfl) ?hcg1x2 ?_
    case hcg1x2 =>
     intro w9 s9
     clear s9
     go_simp
     try (with_reducible rfl)
    simp only [SL]
    refine ht (i := 2) 100 (v := ?vcg2x3) rfl rfl (by kernel_rfl) (fun _ _ _ h => h) hS (by rfl) ?hcg2x3 ?_
    case hcg2x3 =>
     intro w9 s9
     clear s9
     go_simp
     try (with_reducible rfl)
    simp only [SL]
    refine ht (i := 3) 101 (v := ?vcg3x4) rfl rfl (by kernel_rfl) (fun _ _ _ h => h) hS (by rfl) ?hcg3x4 ?_
    case hcg3x4 =>
     intro w9 s9
     obtain ⟨q0, q1, q2, q3, q4, _⟩ := cells5 s9.2
     clear s9
     go_simp
     try (with_reducible rfl)
    simp only [SL]
    refine ht (i := 4) 102 (v := ?vcg4x5) rfl rfl (by kernel_rfl) (fun _ _ _ h => h) hS (by rfl) ?hcg4x5 ?_
    case hcg4x5 =>
     intro w9 s9
     clear s9
     go_simp
     try (with_reducible rfl)
    simp only [SL]
    refine ht (i := 5) 103 (v := ?vcg5x6) rfl rfl (by kernel_rfl) (fun _ _ _ h => h) hS (by rfl) ?hcg5x6 ?_
    case hcg5x6 =>
     intro w9 s9
     clear s9
     go_simp
     try (with_reducible rfl)
    simp only [SL]
    refine ht (i := 6) 104 (v := ?vcg6x7) rfl rfl (by kernel_rfl) (fun _ _ _ h => h) hS (by rfl) ?hcg6x7 ?_
    case hcg6x7 =>
     intro w9 s9
     clear s9
     go_simp
     try (with_reducible rfl)
    simp only [SL]
    refine ht (i := 7) 105 (v := ?vcg7x8) rfl rfl (by kernel_rfl) (fun _ _ _ h => h) hS (by rfl) ?hcg7x8 ?_
    case hcg7x8 =>
     intro w9 s9
     obtain ⟨q0, q1, q2, q3, q4, _⟩ := cells5 s9.2
     clear s9
     go_simp
     try (with_reducible rfl)
    simp only [SL]
    refine ht (i := 8) 106 (v := ?vcg8x9) rfl rfl (by kernel_rfl) (fun _ _ _ h => h) hS (by rfl) ?hcg8x9 ?_
    case hcg8x9 =>
     intro w9 s9
     clear s9
     go_simp
     try (with_reducible rfl)
    simp only [SL]
    refine held_step (i := 9) rfl (by kernel_rfl) (fun K hK => ?_)
    have HK := Lib.hid hK
    clear hK
    go_simp
    go_wp2_with fail
    refine (get_R TT.out.1.r HE6.out a2 HK2.out).mono ?_
    rintro e w8 ⟨rfl, b6⟩
    refine HK.out _ _ ?_ ?_
    ·exact ⟨chain hS.1 b6, (b6.block _ (Array.getElem?_eq_some_iff.1 hS.2).1).trans hS.2⟩
    clear HK K
    try simp only [Act.put, SL]
    have hS' := And.intro (chain hS.1 b6) ((b6.block _ (Array.getElem?_eq_some_iff.1 hS.2).1).trans hS.2)
    clear hS
    have hS := hS'
    clear hS'
    have TTn := Lib.hid (And.intro (TT.out.1.below b6) (TT.out.2.below b6))
    clear TT b6
    have TT := TTn
    clear TTn
    refine ht (i := 10) 97 (v := ?vcg10x10) rfl rfl (by kernel_rfl) (fun _ _ _ h => h) hS (by rfl) ?hcg10x10 ?_
    case hcg10x10 =>
     intro w9 s9
     clear s9
     go_simp
     try (with_reducible rfl)
    simp only [SL]
    refine ht (i := 11) 108 (v := ?vcg11x11) rfl rfl (by kernel_rfl) (fun _ _ _ h => h) hS (by rfl) ?hcg11x11 ?_
    case hcg11x11 =>
     intro w9 s9
     clear s9
     go_simp
     try (with_reducible rfl)
    simp only [SL]
    refine ht (i := 12) 109 (v := ?vcg12x12) rfl rfl (by kernel_rfl) (fun _ _ _ h => h) hS (by rfl) ?hcg12x12 ?_
    case hcg12x12 =>
     intro w9 s9
     clear s9
     go_simp
     try (with_reducible rfl)
    simp only [SL]
    refine ht (i := 13) 110 (v := ?vcg13x13) rfl rfl (by kernel_rfl) (fun _ _ _ h => h) hS (by rfl) ?hcg13x13 ?_
    case hcg13x13 =>
     intro w9 s9
     clear s9
     go_simp
     try (with_reducible rfl)
    simp only [SL]
    refine ht (i := 14) 17 (v := ?vcg14x14) rfl rfl (by kernel_rfl) (fun _ _ _ h => h) hS (by rfl) ?hcg14x14 ?_
    case hcg14x14 =>
     intro w9 s9
     clear s9
     go_simp
     try (with_reducible rfl)
    simp only [SL]
    refine ht (i := 15) 18 (v := ?vcg15x15) rfl rfl (by kernel_rfl) (fun _ _ _ h => h) hS (by rfl) ?hcg15x15 ?_
    case hcg15x15 =>
     intro w9 s9
     clear s9
     go_simp
     try (with_reducible rfl)
    simp only [SL]
    refine ht (i := 16) 19 (v := ?vcg16x16) rfl rfl (by kernel_rfl) (fun _ _ _ h => h) hS (by rfl) ?hcg16x16 ?_
    case hcg16x16 =>
     intro w9 s9
     clear s9
     go_simp
     try (with_reducible rfl)
    simp only [SL]
    refine wpAnyH_done (by kernel_rfl) ?_ _
    have hlk := lookupW (P := Tryz.prog) Tryz.underlying60 Tryz.underlying28 TT.out.2 a2 (.bool false) (bool_zero Tryz.prog w8) false
    rw [setL_get, if_neg (by decide)] at hlk
    have HS8 := Lib.hid hS
    clear hS
    by_cases hkk : a2 ∈ K
    ·rw [decide_eq_true hkk] at hlk
     have gb : getB a2 E = true := getB_iff.2 ((HKE.out a2).2 (.inl hkk))
     rw [gb]
     have BF := Lib.hid (chain B1.out HS8.out.1)
     clear hkk gb HS8 TT
     go_wp2_with fail
     go_ret
     exact ⟨rfl, BF.out⟩
    ·rw [decide_eq_false hkk] at hlk
     have gb : getB a2 E = false := getB_no fun h => ((HKE.out a2).1 h).elim hkk (fun h => by cases h)
     rw [gb]
     have GB := Lib.hid gb
     have TT1 := Lib.hid (TT.out.1.below (Below.refl _ _).drew)
     clear hkk gb TT
     have TT := TT1
     clear TT1
     go_upto_region 21 with fail
     refine wp_region_held_drew (S := fun w' => Below w1.heap.size w1 w' ∧ w'.heap[b]? = some (.cells #[.pointer (some ⟨d, 0, none⟩), .pointer (some ⟨x', 0, none⟩), .pointer (some ⟨s, 0, none⟩), .pointer (some ⟨r', 0, none⟩), .int .i64 root] 39)) (by kernel_rfl) ⟨HS8.out.1.drew, HS8.out.2⟩ (fun hS => ?_)
     refine ht (i := 0) 131 (v := ?vcf0x1) rfl rfl (by kernel_rfl) (fun _ _ _ h => h) hS (by rfl) ?hcf0x1 ?_
     case hcf0x1 =>
      intro w9 s9
      clear s9
      go_simp
      try (with_reducible rfl)
     simp only [SL]
     refine ht (i := 1) 132 (v := ?vcf1x2) rfl rfl (by kernel_rfl) (fun _ _ _ h => h) hS (by rfl) ?hcf1x2 ?_
     case hcf1x2 =>
      intro w9 s9
      clear s9
      go_simp
      try (with_reducible rfl)
     simp only [SL]
     refine ht (i := 2) 133 (v := ?vcf2x3) rfl rfl (by kernel_rfl) (fun _ _ _ h => h) hS (by rfl) ?hcf2x3 ?_
     case hcf2x3 =>
      intro w9 s9
      clear s9
      go_simp
      try (with_reducible rfl)
     simp only [SL]
     refine ht (i := 3) 134 (v := ?vcf3x4) rfl rfl (by kernel_rfl) (fun _ _ _ h => h) hS (by rfl) ?hcf3x4 ?_
     case hcf3x4 =>
      intro w9 s9
      obtain ⟨q0, q1, q2, q3, q4, _⟩ := cells5 s9.2
      clear s9
      go_simp
      try (with_reducible rfl)
     simp only [SL]
     refine ht (i := 4) 135 (v := ?vcf4x5) rfl rfl (by kernel_rfl) (fun _ _ _ h => h) hS (by rfl) ?hcf4x5 ?_
     case hcf4x5 =>
      intro w9 s9
      clear s9
      go_simp
      try (with_reducible rfl)
     simp only [SL]
     refine ht (i := 5) 136 (v := ?vcf5x6) rfl rfl (by kernel_rfl) (fun _ _ _ h => h) hS (by rfl) ?hcf5x6 ?_
     case hcf5x6 =>
      intro w9 s9
      clear s9
      go_simp
      try (with_reducible rfl)
     simp only [SL]
     refine ht (i := 6) 137 (v := ?vcf6x7) rfl rfl (by kernel_rfl) (fun _ _ _ h => h) hS (by rfl) ?hcf6x7 ?_
     case hcf6x7 =>
      intro w9 s9
      clear s9
      go_simp
      try (with_reducible rfl)
     simp only [SL]
     refine ht (i := 7) 138 (v := ?vcf7x8) rfl rfl (by kernel_rfl) (fun _ _ _ h => h) hS (by rfl) ?hcf7x8 ?_
     case hcf7x8 =>
      intro w9 s9
      obtain ⟨q0, q1, q2, q3, q4, _⟩ := cells5 s9.2
      clear s9
      go_simp
      try (with_reducible rfl)
     simp only [SL]
     refine ht (i := 8) 139 (v := ?vcf8x9) rfl rfl (by kernel_rfl) (fun _ _ _ h => h) hS (by rfl) ?hcf8x9 ?_
     case hcf8x9 =>
      intro w9 s9
      clear s9
      go_simp
      try (with_reducible rfl)
     simp only [SL]
     refine held_step (i := 9) rfl (by kernel_rfl) (fun K hK => ?_)
     have HK := Lib.hid hK
     clear hK
     go_simp
     go_wp2_with fail
     refine (delOff_Q TT.out HE6.out a2 HK2.out GB.out).mono ?_
     rintro e w9 ⟨rfl, hT, hK⟩
     refine HK.out _ _ ?_ ?_
     ·exact ⟨hT.r.size, (hK b (by simp)).trans hS.2⟩
     clear HK K
     try simp only [Act.put, SL]
     have hS' := And.intro hT.r.size ((hK b (by simp)).trans hS.2)
     clear hS
     have hS := hS'
     clear hS'
     have TTn := Lib.hid hT
     clear TT hT hK
     have TT := TTn
     clear TTn
     refine ht (i := 10) 130 (v := ?vcf10x10) rfl rfl (by kernel_rfl) (fun _ _ _ h => h) hS (by rfl) ?hcf10x10 ?_
     case hcf10x10 =>
      intro w9 s9
      clear s9
      go_simp
      try (with_reducible rfl)
     simp only [SL]
     refine ht (i := 11) 141 (v := ?vcf11x11) rfl rfl (by kernel_rfl) (fun _ _ _ h => h) hS (by rfl) ?hcf11x11 ?_
     case hcf11x11 =>
      intro w9 s9
      clear s9
      go_simp
      try (with_reducible rfl)
     simp only [SL]
     refine ht (i := 12) 142 (v := ?vcf12x12) rfl rfl (by kernel_rfl) (fun _ _ _ h => h) hS (by rfl) ?hcf12x12 ?_
     case hcf12x12 =>
      intro w9 s9
      clear s9
      go_simp
      try (with_reducible rfl)
     simp only [SL]
     refine ht (i := 13) 143 (v := ?vcf13x13) rfl rfl (by kernel_rfl) (fun _ _ _ h => h) hS (by rfl) ?hcf13x13 ?_
     case hcf13x13 =>
      intro w9 s9
      clear s9
      go_simp
      try (with_reducible rfl)
     simp only [SL]
     refine ht (i := 14) 20 (v := ?vcf14x14) rfl rfl (by kernel_rfl) (fun _ _ _ h => h) hS (by rfl) ?hcf14x14 ?_
     case hcf14x14 =>
      intro w9 s9
      clear s9
      go_simp
      try (with_reducible rfl)
     simp only [SL]
     refine ht (i := 15) 21 (v := ?vcf15x15) rfl rfl (by kernel_rfl) (fun _ _ _ h => h) hS (by rfl) ?hcf15x15 ?_
     case hcf15x15 =>
      intro w9 s9
      clear s9
      go_simp
      try (with_reducible rfl)
     simp only [SL]
     refine ht (i := 16) 22 (v := ?vcf16x16) rfl rfl (by kernel_rfl) (fun _ _ _ h => h) hS (by rfl) ?hcf16x16 ?_
     case hcf16x16 =>
      intro w9 s9
      clear s9
      go_simp
      try (with_reducible rfl)
     simp only [SL]
     refine wpAnyH_done (by kernel_rfl) ?_ _
     obtain ⟨q0, q1, q2, q3, q4, _⟩ := cells5 hS.2
     have HSZ := Lib.hid hS.1
     clear hS
     have LF := left_Q TT.out
     rw [hlv] at LF
     have LFH := Lib.hid LF
     clear LF TT
     go_wp2_with fail
     refine LFH.out.mono ?_
     rintro e wa ⟨rfl, ba⟩
     have BF := Lib.hid (chain B1.out (chain HSZ.out ba))
     clear ba LFH
     go_wp2_with fail
     go_ret
     exact ⟨rfl, BF.out⟩
  ·have hjli : ¬ (j : Int) < (len : Int) := by omega
   clear hjl
   have HK2 := Lib.hid HA2.out
   obtain ⟨dk, st, hq⟩ := HI.out.tr.q
   have HQ0 := Lib.hid hq
   have HKE := Lib.hid HI.out.ke
   have HMP := Lib.hid HI.out.mp
   have HCB := Lib.hid HI.out.cb
   have HE6 : Hid (E.length ≤ 600) := Lib.hid (by have := HLN.out; omega)
   obtain ⟨q0, q1, q2, q3, q4, _⟩ := cells5 HI.out.cb
   obtain ⟨LV, hlv⟩ : ∃ LV, leftN st dk.S.length = LV := ⟨_, rfl⟩
   have LQ := left_Q hq
   rw [hlv] at LQ
   have LQH := Lib.hid LQ
   clear HI HLN hq LQ hj1 hj2
   go_wp2_with fail
   refine LQH.out.mono ?_
   rintro e w5 ⟨rfl, b5⟩
   have TT := Lib.hid (And.intro (HQ0.out.below b5) (HMP.out.below b5))
   have HS5 : Hid (Below w1.heap.size w1 w5 ∧ w5.heap[b]? = some (.cells #[.pointer (some ⟨d, 0, none⟩), .pointer (some ⟨x', 0, none⟩), .pointer (some ⟨s, 0, none⟩), .pointer (some ⟨r', 0, none⟩), .int .i64 root] 39)) := Lib.hid ⟨TT.out.1.r.size, (b5.block _ (Array.getElem?_eq_some_iff.1 HCB.out).1).trans HCB.out⟩
   clear b5 HQ0 HMP HCB LQH q0 q1 q2 q3 q4
   have TT1 := Lib.hid (And.intro (TT.out.1.below (Below.refl _ _).drew) (TT.out.2.below (Below.refl _ _).drew))
   clear TT
   have TT := TT1
   clear TT1
   go_upto_region 17 with fail
   refine wp_region_held_drew (S := fun w' => Below w1.heap.size w1 w' ∧ w'.heap[b]? = some (.cells #[.pointer (some ⟨d, 0, none⟩), .pointer (some ⟨x', 0, none⟩), .pointer (some ⟨s, 0, none⟩), .pointer (some ⟨r', 0, none⟩), .int .i64 root] 39)) (by kernel_rfl) ⟨HS5.out.1.drew, HS5.out.2⟩ (fun hS => ?_)
   refine ht (i := 0) 80 (v := ?vdh0x1) rfl rfl (by kernel_rfl) (fun _ _ _ h => h) hS (by rfl) ?hdh0x1 ?_
   case hdh0x1 =>
    intro w9 s9
    clear s9
    go_simp
    try (with_reducible rfl)
   simp only [SL]
   refine ht (i := 1) 81 (v := ?vdh1x2) rfl rfl (by kernel_rfl) (fun _ _ _ h => h) hS (by rfl) ?hdh1x2 ?_
   case hdh1x2 =>
    intro w9 s9
    clear s9
    go_simp
    try (with_reducible rfl)
   simp only [SL]
   refine ht (i := 2) 82 (v := ?vdh2x3) rfl rfl (by kernel_rfl) (fun _ _ _ h => h) hS (by rfl) ?hdh2x3 ?_
   case hdh2x3 =>
    intro w9 s9
    clear s9
    go_simp
    try (with_reducible rfl)
   simp only [SL]
   refine ht (i := 3) 83 (v := ?vdh3x4) rfl rfl (by kernel_rfl) (fun _ _ _ h => h) hS (by rfl) ?hdh3x4 ?_
   case hdh3x4 =>
    intro w9 s9
    obtain ⟨q0, q1, q2, q3, q4, _⟩ := cells5 s9.2
    clear s9
    go_simp
    try (with_reducible rfl)
   simp only [SL]
   refine ht (i := 4) 84 (v := ?vdh4x5) rfl rfl (by kernel_rfl) (fun _ _ _ h => h) hS (by rfl) ?hdh4x5 ?_
   case hdh4x5 =>
    intro w9 s9
    clear s9
    go_simp
    try (with_reducible rfl)
   simp only [SL]
   refine ht (i := 5) 85 (v := ?vdh5x6) rfl rfl (by kernel_rfl) (fun _ _ _ h => h) hS (by rfl) ?hdh5x6 ?_
   case hdh5x6 =>
    intro w9 s9
    clear s9
    go_simp
    try (with_reducible rfl)
   simp only [SL]
   refine ht (i := 6) 86 (v := ?vdh6x7) rfl rfl (by kernel_rfl) (fun _ _ _ h => h) hS (by rfl) ?hdh6x7 ?_
   case hdh6x7 =>
    intro w9 s9
    clear s9
    go_simp
    try (with_reducible rfl)
   simp only [SL]
   refine ht (i := 7) 87 (v := ?vdh7x8) rfl rfl (by kernel_rfl) (fun _ _ _ h => h) hS (by rfl) ?hdh7x8 ?_
   case hdh7x8 =>
    intro w9 s9
    obtain ⟨q0, q1, q2, q3, q4, _⟩ := cells5 s9.2
    clear s9
    go_simp
    try (with_reducible rfl)
   simp only [SL]
   refine ht (i := 8) 88 (v := ?vdh8x9) rfl rfl (by kernel_rfl) (fun _ _ _ h => h) hS (by rfl) ?hdh8x9 ?_
   case hdh8x9 =>
    intro w9 s9
    clear s9
    go_simp
    try (with_reducible rfl)
   simp only [SL]
   refine ht (i := 9) 89 (v := ?vdh9x10) rfl rfl (by kernel_rfl) (fun _ _ _ h => h) hS (by rfl) ?hdh9x10 ?_
   case hdh9x10 =>
    intro w9 s9
    clear s9
    go_simp
    try (with_reducible rfl)
   simp only [SL]
   refine ht (i := 10) 90 (v := ?vdh10x11) rfl rfl (by kernel_rfl) (fun _ _ _ h => h) hS (by rfl) ?hdh10x11 ?_
   case hdh10x11 =>
    intro w9 s9
    clear s9
    go_simp
    try (with_reducible rfl)
   simp only [SL]
   refine ht (i := 11) 91 (v := ?vdh11x12) rfl rfl (by kernel_rfl) (fun _ _ _ h => h) hS (by rfl) ?hdh11x12 ?_
   case hdh11x12 =>
    intro w9 s9
    clear s9
    go_simp
    try (with_reducible rfl)
   simp only [SL]
   refine held_step (i := 12) rfl (by kernel_rfl) (fun K hK => ?_)
   have HK := Lib.hid hK
   clear hK
   go_simp
   obtain ⟨w6, hmk, hrow, b6⟩ := made_bytes w5.drew q q (Nat.le_refl _) (by have := HQ.out; omega)
   have hmk' : (Instr.makeSlice 62 (.int .i64 (q : Int)) (.int .i64 (q : Int))).run Tryz.prog w5.drew = .ok (.slice (some ⟨w5.heap.size, 0, none⟩) q q) w6 := hmk
   clear hmk
   go_simp
   refine HK.out _ _ ?_ ?_
   ·exact ⟨chain hS.1 b6, (b6.block _ (Array.getElem?_eq_some_iff.1 hS.2).1).trans hS.2⟩
   clear HK K
   try simp only [Act.put, SL]
   clear hmk'
   have hS' := And.intro (chain hS.1 b6) ((b6.block _ (Array.getElem?_eq_some_iff.1 hS.2).1).trans hS.2)
   clear hS
   have hS := hS'
   clear hS'
   have TTn := Lib.hid (And.intro (TT.out.1.below b6) (TT.out.2.below b6))
   clear TT b6
   have TT := TTn
   clear TTn
   have ROW := Lib.hid hrow
   clear hrow
   refine held_step (i := 13) rfl (by kernel_rfl) (fun K hK => ?_)
   have HK := Lib.hid hK
   clear hK
   go_simp
   have hcv := ROW.out.conv q q (by rw [List.length_replicate]; exact Nat.le_refl _)
   rw [List.take_of_length_le (by rw [List.length_replicate]; exact Nat.le_refl _), HZ.out] at hcv
   have hcv' : (convert 62 9 (.slice (some ⟨w5.heap.size, 0, none⟩) q q)).run Tryz.prog w6 = .ok (.string Z) w6 := hcv
   clear hcv
   go_simp
   refine HK.out _ _ ?_ ?_
   ·exact hS
   clear HK K
   try simp only [Act.put, SL]
   clear hcv' ROW
   refine held_step (i := 14) rfl (by kernel_rfl) (fun K hK => ?_)
   have HK := Lib.hid hK
   clear hK
   go_simp
   go_wp2_with fail
   refine (tput_long _ s root a2 Z HZL.out).mono ?_
   rintro e w7 ⟨rfl, b6⟩
   refine HK.out _ _ ?_ ?_
   ·exact ⟨chain hS.1 b6, (b6.block _ (Array.getElem?_eq_some_iff.1 hS.2).1).trans hS.2⟩
   clear HK K
   try simp only [Act.put, SL]
   have hS' := And.intro (chain hS.1 b6) ((b6.block _ (Array.getElem?_eq_some_iff.1 hS.2).1).trans hS.2)
   clear hS
   have hS := hS'
   clear hS'
   have TTn := Lib.hid (And.intro (TT.out.1.below b6) (TT.out.2.below b6))
   clear TT b6
   have TT := TTn
   clear TTn
   refine ht (i := 15) 79 (v := ?vdh15x13) rfl rfl (by kernel_rfl) (fun _ _ _ h => h) hS (by rfl) ?hdh15x13 ?_
   case hdh15x13 =>
    intro w9 s9
    clear s9
    go_simp
    try (with_reducible rfl)
   simp only [SL]
   refine ht (i := 16) 95 (v := ?vdh16x14) rfl rfl (by kernel_rfl) (fun _ _ _ h => h) hS (by rfl) ?hdh16x14 ?_
   case hdh16x14 =>
    intro w9 s9
    clear s9
    go_simp
    try (with_reducible rfl)
   simp only [SL]
   refine ht (i := 17) 96 (v := ?vdh17x15) rfl rfl (by kernel_rfl) (fun _ _ _ h => h) hS (by rfl) ?hdh17x15 ?_
   case hdh17x15 =>
    intro w9 s9
    clear s9
    go_simp
    try (with_reducible rfl)
   simp only [SL]
   refine ht (i := 18) 15 (v := ?vdh18x16) rfl rfl (by kernel_rfl) (fun _ _ _ h => h) hS (by rfl) ?hdh18x16 ?_
   case hdh18x16 =>
    intro w9 s9
    clear s9
    go_simp
    try (with_reducible rfl)
   simp only [SL]
   refine ht (i := 19) 16 (v := ?vdh19x17) rfl rfl (by kernel_rfl) (fun _ _ _ h => h) hS (by rfl) ?hdh19x17 ?_
   case hdh19x17 =>
    intro w9 s9
    clear s9
    go_simp
    try (with_reducible rfl)
   simp only [SL]
   refine wpAnyH_done (by kernel_rfl) ?_ _
   have HS7 := Lib.hid hS
   clear hS
   have TT1 := Lib.hid (And.intro (TT.out.1.below (Below.refl _ _).drew) (TT.out.2.below (Below.refl _ _).drew))
   clear TT
   have TT := TT1
   clear TT1
   go_upto_region 18 with fail
   refine wp_region_held_drew (S := fun w' => Below w1.heap.size w1 w' ∧ w'.heap[b]? = some (.cells #[.pointer (some ⟨d, 0, none⟩), .pointer (some ⟨x', 0, none⟩), .pointer (some ⟨s, 0, none⟩), .pointer (some ⟨r', 0, none⟩), .int .i64 root] 39)) (by kernel_rfl) ⟨HS7.out.1.drew, HS7.out.2⟩ (fun hS => ?_)
   refine ht (i := 0) 98 (v := ?vdg0x1) rfl rfl (by kernel_rfl) (fun _ _ _ h => h) hS (by rfl) ?hdg0x1 ?_
   case hdg0x1 =>
    intro w9 s9
    clear s9
    go_simp
    try (with_reducible rfl)
   simp only [SL]
   refine ht (i := 1) 99 (v := ?vdg1x2) rfl rfl (by kernel_rfl) (fun _ _ _ h => h) hS (by rfl) ?hdg1x2 ?_
   case hdg1x2 =>
    intro w9 s9
    clear s9
    go_simp
    try (with_reducible rfl)
   simp only [SL]
   refine ht (i := 2) 100 (v := ?vdg2x3) rfl rfl (by kernel_rfl) (fun _ _ _ h => h) hS (by rfl) ?hdg2x3 ?_
   case hdg2x3 =>
    intro w9 s9
    clear s9
    go_simp
    try (with_reducible rfl)
   simp only [SL]
   refine ht (i := 3) 101 (v := ?vdg3x4) rfl rfl (by kernel_rfl) (fun _ _ _ h => h) hS (by rfl) ?hdg3x4 ?_
   case hdg3x4 =>
    intro w9 s9
    obtain ⟨q0, q1, q2, q3, q4, _⟩ := cells5 s9.2
    clear s9
    go_simp
    try (with_reducible rfl)
   simp only [SL]
   refine ht (i := 4) 102 (v := ?vdg4x5) rfl rfl (by kernel_rfl) (fun _ _ _ h => h) hS (by rfl) ?hdg4x5 ?_
   case hdg4x5 =>
    intro w9 s9
    clear s9
    go_simp
    try (with_reducible rfl)
   simp only [SL]
   refine ht (i := 5) 103 (v := ?vdg5x6) rfl rfl (by kernel_rfl) (fun _ _ _ h => h) hS (by rfl) ?hdg5x6 ?_
   case hdg5x6 =>
    intro w9 s9
    clear s9
    go_simp
    try (with_reducible rfl)
   simp only [SL]
   refine ht (i := 6) 104 (v := ?vdg6x7) rfl rfl (by kernel_rfl) (fun _ _ _ h => h) hS (by rfl) ?hdg6x7 ?_
   case hdg6x7 =>
    intro w9 s9
    clear s9
    go_simp
    try (with_reducible rfl)
   simp only [SL]
   refine ht (i := 7) 105 (v := ?vdg7x8) rfl rfl (by kernel_rfl) (fun _ _ _ h => h) hS (by rfl) ?hdg7x8 ?_
   case hdg7x8 =>
    intro w9 s9
    obtain ⟨q0, q1, q2, q3, q4, _⟩ := cells5 s9.2
    clear s9
    go_simp
    try (with_reducible rfl)
   simp only [SL]
   refine ht (i := 8) 106 (v := ?vdg8x9) rfl rfl (by kernel_rfl) (fun _ _ _ h => h) hS (by rfl) ?hdg8x9 ?_
   case hdg8x9 =>
    intro w9 s9
    clear s9
    go_simp
    try (with_reducible rfl)
   simp only [SL]
   refine held_step (i := 9) rfl (by kernel_rfl) (fun K hK => ?_)
   have HK := Lib.hid hK
   clear hK
   go_simp
   go_wp2_with fail
   refine (get_R TT.out.1.r HE6.out a2 HK2.out).mono ?_
   rintro e w8 ⟨rfl, b6⟩
   refine HK.out _ _ ?_ ?_
   ·exact ⟨chain hS.1 b6, (b6.block _ (Array.getElem?_eq_some_iff.1 hS.2).1).trans hS.2⟩
   clear HK K
   try simp only [Act.put, SL]
   have hS' := And.intro (chain hS.1 b6) ((b6.block _ (Array.getElem?_eq_some_iff.1 hS.2).1).trans hS.2)
   clear hS
   have hS := hS'
   clear hS'
   have TTn := Lib.hid (And.intro (TT.out.1.below b6) (TT.out.2.below b6))
   clear TT b6
   have TT := TTn
   clear TTn
   refine ht (i := 10) 97 (v := ?vdg10x10) rfl rfl (by kernel_rfl) (fun _ _ _ h => h) hS (by rfl) ?hdg10x10 ?_
   case hdg10x10 =>
    intro w9 s9
    clear s9
    go_simp
    try (with_reducible rfl)
   simp only [SL]
   refine ht (i := 11) 108 (v := ?vdg11x11) rfl rfl (by kernel_rfl) (fun _ _ _ h => h) hS (by rfl) ?hdg11x11 ?_
   case hdg11x11 =>
    intro w9 s9
    clear s9
    go_simp
    try (with_reducible rfl)
   simp only [SL]
   refine ht (i := 12) 109 (v := ?vdg12x12) rfl rfl (by kernel_rfl) (fun _ _ _ h => h) hS (by rfl) ?hdg12x12 ?_
   case hdg12x12 =>
    intro w9 s9
    clear s9
    go_simp
    try (with_reducible rfl)
   simp only [SL]
   refine ht (i := 13) 110 (v := ?vdg13x13) rfl rfl (by kernel_rfl) (fun _ _ _ h => h) hS (by rfl) ?hdg13x13 ?_
   case hdg13x13 =>
    intro w9 s9
    clear s9
    go_simp
    try (with_reducible rfl)
   simp only [SL]
   refine ht (i := 14) 17 (v := ?vdg14x14) rfl rfl (by kernel_rfl) (fun _ _ _ h => h) hS (by rfl) ?hdg14x14 ?_
   case hdg14x14 =>
    intro w9 s9
    clear s9
    go_simp
    try (with_reducible rfl)
   simp only [SL]
   refine ht (i := 15) 18 (v := ?vdg15x15) rfl rfl (by kernel_rfl) (fun _ _ _ h => h) hS (by rfl) ?hdg15x15 ?_
   case hdg15x15 =>
    intro w9 s9
    clear s9
    go_simp
    try (with_reducible rfl)
   simp only [SL]
   refine ht (i := 16) 19 (v := ?vdg16x16) rfl rfl (by kernel_rfl) (fun _ _ _ h => h) hS (by rfl) ?hdg16x16 ?_
   case hdg16x16 =>
    intro w9 s9
    clear s9
    go_simp
    try (with_reducible rfl)
   simp only [SL]
   refine wpAnyH_done (by kernel_rfl) ?_ _
   have hlk := lookupW (P := Tryz.prog) Tryz.underlying60 Tryz.underlying28 TT.out.2 a2 (.bool false) (bool_zero Tryz.prog w8) false
   rw [setL_get, if_neg (by decide)] at hlk
   have HS8 := Lib.hid hS
   clear hS
   by_cases hkk : a2 ∈ K
   ·rw [decide_eq_true hkk] at hlk
    have gb : getB a2 E = true := getB_iff.2 ((HKE.out a2).2 (.inl hkk))
    rw [gb]
    have BF := Lib.hid (chain B1.out HS8.out.1)
    clear hkk gb HS8 TT
    go_wp2_with fail
    go_ret
    exact ⟨rfl, BF.out⟩
   ·rw [decide_eq_false hkk] at hlk
    have gb : getB a2 E = false := getB_no fun h => ((HKE.out a2).1 h).elim hkk (fun h => by cases h)
    rw [gb]
    have GB := Lib.hid gb
    have TT1 := Lib.hid (TT.out.1.below (Below.refl _ _).drew)
    clear hkk gb TT
    have TT := TT1
    clear TT1
    go_upto_region 21 with fail
    refine wp_region_held_drew (S := fun w' => Below w1.heap.size w1 w' ∧ w'.heap[b]? = some (.cells #[.pointer (some ⟨d, 0, none⟩), .pointer (some ⟨x', 0, none⟩), .pointer (some ⟨s, 0, none⟩), .pointer (some ⟨r', 0, none⟩), .int .i64 root] 39)) (by kernel_rfl) ⟨HS8.out.1.drew, HS8.out.2⟩ (fun hS => ?_)
    refine ht (i := 0) 131 (v := ?vdf0x1) rfl rfl (by kernel_rfl) (fun _ _ _ h => h) hS (by rfl) ?hdf0x1 ?_
    case hdf0x1 =>
     intro w9 s9
     clear s9
     go_simp
     try (with_reducible rfl)
    simp only [SL]
    refine ht (i := 1) 132 (v := ?vdf1x2) rfl rfl (by kernel_rfl) (fun _ _ _ h => h) hS (by rfl) ?hdf1x2 ?_
    case hdf1x2 =>
     intro w9 s9
     clear s9
     go_simp
     try (with_reducible rfl)
    simp only [SL]
    refine ht (i := 2) 133 (v := ?vdf2x3) rfl rfl (by kernel_rfl) (fun _ _ _ h => h) hS (by rfl) ?hdf2x3 ?_
    case hdf2x3 =>
     intro w9 s9
     clear s9
     go_simp
     try (with_reducible rfl)
    simp only [SL]
    refine ht (i := 3) 134 (v := ?vdf3x4) rfl rfl (by kernel_rfl) (fun _ _ _ h => h) hS (by rfl) ?hdf3x4 ?_
    case hdf3x4 =>
     intro w9 s9
     obtain ⟨q0, q1, q2, q3, q4, _⟩ := cells5 s9.2
     clear s9
     go_simp
     try (with_reducible rfl)
    simp only [SL]
    refine ht (i := 4) 135 (v := ?vdf4x5) rfl rfl (by kernel_rfl) (fun _ _ _ h => h) hS (by rfl) ?hdf4x5 ?_
    case hdf4x5 =>
     intro w9 s9
     clear s9
     go_simp
     try (with_reducible rfl)
    simp only [SL]
    refine ht (i := 5) 136 (v := ?vdf5x6) rfl rfl (by kernel_rfl) (fun _ _ _ h => h) hS (by rfl) ?hdf5x6 ?_
    case hdf5x6 =>
     intro w9 s9
     clear s9
     go_simp
     try (with_reducible rfl)
    simp only [SL]
    refine ht (i := 6) 137 (v := ?vdf6x7) rfl rfl (by kernel_rfl) (fun _ _ _ h => h) hS (by rfl) ?hdf6x7 ?_
    case hdf6x7 =>
     intro w9 s9
     clear s9
     go_simp
     try (with_reducible rfl)
    simp only [SL]
    refine ht (i := 7) 138 (v := ?vdf7x8) rfl rfl (by kernel_rfl) (fun _ _ _ h => h) hS (by rfl) ?hdf7x8 ?_
    case hdf7x8 =>
     intro w9 s9
     obtain ⟨q0, q1, q2, q3, q4, _⟩ := cells5 s9.2
     clear s9
     go_simp
     try (with_reducible rfl)
    simp only [SL]
    refine ht (i := 8) 139 (v := ?vdf8x9) rfl rfl (by kernel_rfl) (fun _ _ _ h => h) hS (by rfl) ?hdf8x9 ?_
    case hdf8x9 =>
     intro w9 s9
     clear s9
     go_simp
     try (with_reducible rfl)
    simp only [SL]
    refine held_step (i := 9) rfl (by kernel_rfl) (fun K hK => ?_)
    have HK := Lib.hid hK
    clear hK
    go_simp
    go_wp2_with fail
    refine (delOff_Q TT.out HE6.out a2 HK2.out GB.out).mono ?_
    rintro e w9 ⟨rfl, hT, hK⟩
    refine HK.out _ _ ?_ ?_
    ·exact ⟨hT.r.size, (hK b (by simp)).trans hS.2⟩
    clear HK K
    try simp only [Act.put, SL]
    have hS' := And.intro hT.r.size ((hK b (by simp)).trans hS.2)
    clear hS
    have hS := hS'
    clear hS'
    have TTn := Lib.hid hT
    clear TT hT hK
    have TT := TTn
    clear TTn
    refine ht (i := 10) 130 (v := ?vdf10x10) rfl rfl (by kernel_rfl) (fun _ _ _ h => h) hS (by rfl) ?hdf10x10 ?_
    case hdf10x10 =>
     intro w9 s9
     clear s9
     go_simp
     try (with_reducible rfl)
    simp only [SL]
    refine ht (i := 11) 141 (v := ?vdf11x11) rfl rfl (by kernel_rfl) (fun _ _ _ h => h) hS (by rfl) ?hdf11x11 ?_
    case hdf11x11 =>
     intro w9 s9
     clear s9
     go_simp
     try (with_reducible rfl)
    simp only [SL]
    refine ht (i := 12) 142 (v := ?vdf12x12) rfl rfl (by kernel_rfl) (fun _ _ _ h => h) hS (by rfl) ?hdf12x12 ?_
    case hdf12x12 =>
     intro w9 s9
     clear s9
     go_simp
     try (with_reducible rfl)
    simp only [SL]
    refine ht (i := 13) 143 (v := ?vdf13x13) rfl rfl (by kernel_rfl) (fun _ _ _ h => h) hS (by rfl) ?hdf13x13 ?_
    case hdf13x13 =>
     intro w9 s9
     clear s9
     go_simp
     try (with_reducible rfl)
    simp only [SL]
    refine ht (i := 14) 20 (v := ?vdf14x14) rfl rfl (by kernel_rfl) (fun _ _ _ h => h) hS (by rfl) ?hdf14x14 ?_
    case hdf14x14 =>
     intro w9 s9
     clear s9
     go_simp
     try (with_reducible rfl)
    simp only [SL]
    refine ht (i := 15) 21 (v := ?vdf15x15) rfl rfl (by kernel_rfl) (fun _ _ _ h => h) hS (by rfl) ?hdf15x15 ?_
    case hdf15x15 =>
     intro w9 s9
     clear s9
     go_simp
     try (with_reducible rfl)
    simp only [SL]
    refine ht (i := 16) 22 (v := ?vdf16x16) rfl rfl (by kernel_rfl) (fun _ _ _ h => h) hS (by rfl) ?hdf16x16 ?_
    case hdf16x16 =>
     intro w9 s9
     clear s9
     go_simp
     try (with_reducible rfl)
    simp only [SL]
    refine wpAnyH_done (by kernel_rfl) ?_ _
    obtain ⟨q0, q1, q2, q3, q4, _⟩ := cells5 hS.2
    have HSZ := Lib.hid hS.1
    clear hS
    have LF := left_Q TT.out
    rw [hlv] at LF
    have LFH := Lib.hid LF
    clear LF TT
    go_wp2_with fail
    refine LFH.out.mono ?_
    rintro e wa ⟨rfl, ba⟩
    have BF := Lib.hid (chain B1.out (chain HSZ.out ba))
    clear ba LFH
    go_wp2_with fail
    go_ret
    exact ⟨rfl, BF.out⟩
end Go.Proofs.YtmomlhiokggfbaaGreatDoor
