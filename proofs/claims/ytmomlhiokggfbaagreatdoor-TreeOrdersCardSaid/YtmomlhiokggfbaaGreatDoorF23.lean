/-
 TrVa, MapW, TrLk, TrEx, TreeOrdersLaw.
-/
import Derived.Test.YtmomlhiokggfbaaGreatDoorF20
import Derived.Test.YtmomlhiokggfbaaGreatDoorF01
import Derived.Test.YtmomlhiokggfbaaGreatDoorF08
import Derived.Test.YtmomlhiokggfbaaGreatDoorF05
import Derived.MapKept
import Derived.Test.YtmomlhiokggfbaaGreatDoorF22
import Derived.Test.YtmomlhiokggfbaaGreatDoorF03
namespace Go.Proofs.YtmomlhiokggfbaaGreatDoor
open Go.RowKit
set_option linter.unusedVariables false
set_option linter.unusedSimpArgs false
set_option maxRecDepth 20000
set_option maxHeartbeats 12800000
def zrowV (q : Nat) : SP := ⟨fun v w => ∃ g, v = .slice (some ⟨g, 0, none⟩) q q ∧ Byt 5 w g (List.replicate q 0), fun _ _ _ ⟨g, h1, h2⟩ hb => ⟨g, h1, h2.below hb⟩⟩
def oneV (x : UInt8) : SP := ⟨fun v w => ∃ g, v = .slice (some ⟨g, 0, none⟩) 1 1 ∧ Byt 5 w g [x], fun _ _ _ ⟨g, h1, h2⟩ hb => ⟨g, h1, h2.below hb⟩⟩
def lawM (n : Int) : Nat := (if n < 0 then -(n + 1) else n).toNat
def lawV (n : Int) : ByteArray := Str (List.replicate (lawM n % 40) 0) ++ Str [UInt8.ofNat (lawM n % 256)]
theorem lawV_size (n : Int) : (lawV n).size ≤ 40 := by
 unfold lawV;rw [ByteArray.size_append, Str_size, Str_size, List.length_replicate];have := Nat.mod_lt (lawM n) (show 0 < 40 by decide);simp only [List.length_cons, List.length_nil];omega
theorem value_is (w : World) (n : Int) (h1 : -9223372036854775808 ≤ n) (h2 : n ≤ 9223372036854775807) :
  Calls Tryz.prog 17 #[.int .i64 n] w fun e w' => e = .returned (.string (lawV n)) ∧ Below w.heap.size w w' := by
 obtain ⟨m, hm⟩ : ∃ m, lawM n = m := ⟨_, rfl⟩
 obtain ⟨q, hq⟩ : ∃ q, m % 40 = q := ⟨_, rfl⟩
 obtain ⟨x, hx⟩ : ∃ x, UInt8.ofNat (m % 256) = x := ⟨_, rfl⟩
 obtain ⟨Z, hZ⟩ : ∃ Z, Str (List.replicate q (0 : UInt8)) = Z := ⟨_, rfl⟩
 obtain ⟨X1, hX1⟩ : ∃ X1, Str [x] = X1 := ⟨_, rfl⟩
 have FIN : Hid (lawV n = Z ++ X1) := Lib.hid (by unfold lawV; rw [hm, hq, hx, hZ, hX1]);have HQ40 : Hid (q < 40) := Lib.hid (by rw [← hq]; exact Nat.mod_lt _ (by decide));have HQ : Hid ((m : Int).tmod 40 = (q : Int)) := Lib.hid (by rw [← hq]; rfl);have HZ := Lib.hid hZ;have HX1 := Lib.hid hX1;have HX : Hid (IntKind.u8.wrap (m : Int) = (x.toNat : Int)) := Lib.hid (by rw [← hx, UInt8.toNat_ofNat']; show _ = _; rw [IntKind.wrap_u8]; omega)
 have HSZ : Hid ((9223372036854775807 < Z.size + X1.size) = False) := Lib.hid (by
  rw [← hZ, ← hX1, Str_size, Str_size, List.length_replicate];have := HQ40.out;simp only [List.length_cons, List.length_nil];exact eq_false (by omega))
 clear hq hx hZ hX1
 by_cases hn : n < 0
 ·have hm' : -(n + 1) = (m : Int) := by rw [← hm]; unfold lawM; rw [if_pos hn]; omega
  have e1 : IntKind.i64.wrap (n + 1) = n + 1 := IntWalk.i64_in _ (by omega);have e2 : IntKind.i64.wrap (-(n + 1)) = (m : Int) := by rw [hm']; exact IntWalk.i64_in _ (by omega)
  clear hm hm';go_enter Tryz.func17, Tryz.ntmps17;go_wp2_with fail;refine region_kit 99 17 [eqV (.int .i64 (m : Int)), eqV (.int .i64 ((q : Nat) : Int)), zrowV q, eqV (.string Z), eqV (.int .i64 (m : Int)), eqV (.int .u8 (x.toNat : Int)), oneV x, eqV (.string X1), eqV (.string (Z ++ X1)), eqV (.string (Z ++ X1))] (by kernel_rfl) (by kernel_rfl) (by rfl) ?owes ?ends
  case owes =>
   refine Fo 0 (fun a wx hS xo xd K HK => ?_) ?_
   ·have d0 := Fl xo 0
    clear xo xd;go_simp;exact HK.out _ _ rfl (Below.refl _ _)
   refine Fo 1 (fun a wx hS xo xd K HK => ?_) ?_
   ·have d8 := Fq xd 0
    clear xo xd;have hq := HQ.out;go_simp;exact HK.out _ _ rfl (Below.refl _ _)
   refine Fo 2 (fun a wx hS xo xd K HK => ?_) ?_
   ·have d9 := Fq xd 1
    clear xo xd;obtain ⟨w3, hmk, hrow, hbel⟩ := made_bytes wx q q (Nat.le_refl _) (by have := HQ40.out; omega);have hmk' : (Instr.makeSlice 62 (.int .i64 (q : Int)) (.int .i64 (q : Int))).run Tryz.prog wx = .ok (.slice (some ⟨wx.heap.size, 0, none⟩) q q) w3 := hmk;clear hmk;go_simp;exact HK.out _ _ ⟨_, rfl, hrow⟩ hbel
   refine Fo 3 (fun a wx hS xo xd K HK => ?_) ?_
   ·obtain ⟨g10, d10, z10⟩ : ∃ g, a.tmps[10]?.getD undef = .slice (some ⟨g, 0, none⟩) q q ∧ Byt 5 wx g (List.replicate q 0) := Fr xd 2
    clear xo xd;have hcv := z10.conv q q (by rw [List.length_replicate]; exact Nat.le_refl _);rw [List.take_of_length_le (by rw [List.length_replicate]; exact Nat.le_refl _), HZ.out] at hcv;have hcv' : (convert 62 9 (.slice (some ⟨g10, 0, none⟩) q q)).run Tryz.prog wx = .ok (.string Z) wx := hcv;clear hcv;go_simp;exact HK.out _ _ rfl (Below.refl _ _)
   refine Fo 4 (fun a wx hS xo xd K HK => ?_) ?_
   ·have d0 := Fl xo 0
    clear xo xd;go_simp;exact HK.out _ _ rfl (Below.refl _ _)
   refine Fo 5 (fun a wx hS xo xd K HK => ?_) ?_
   ·have d12 := Fq xd 4
    clear xo xd;go_simp;refine HK.out _ _ ?_ (Below.refl _ _)
    show _ = _
    first | rfl | simp only [HX.out]
   refine Fo 6 (fun a wx hS xo xd K HK => ?_) ?_
   ·have d13 := Fq xd 5
    clear xo xd;go_simp;exact HK.out _ _ ⟨_, rfl, heap_alloc_new wx _⟩ (below_made _ _)
   refine Fo 7 (fun a wx hS xo xd K HK => ?_) ?_
   ·obtain ⟨g14, d14, z14⟩ : ∃ g, a.tmps[14]?.getD undef = .slice (some ⟨g, 0, none⟩) 1 1 ∧ Byt 5 wx g [x] := Fr xd 6
    clear xo xd;have hcv := z14.conv 1 1 (Nat.le_refl _);rw [show ([x] : List UInt8).take 1 = [x] from rfl, HX1.out] at hcv;have hcv' : (convert 62 9 (.slice (some ⟨g14, 0, none⟩) 1 1)).run Tryz.prog wx = .ok (.string X1) wx := hcv;clear hcv;go_simp;exact HK.out _ _ rfl (Below.refl _ _)
   refine Fo 8 (fun a wx hS xo xd K HK => ?_) ?_
   ·have d11 := Fq xd 3
    have d15 := Fq xd 7;clear xo xd;have hs := HSZ.out;go_simp;exact HK.out _ _ rfl (Below.refl _ _)
   refine Fo 9 (fun a wx hS xo xd K HK => ?_) ?_
   ·have d16 := Fq xd 8
    clear xo xd;go_simp;exact HK.out _ _ rfl (Below.refl _ _)
   exact OwesAll.nil
  case ends =>
   intro a wx hS hsz hdf hold hdone;simp only [List.getElem?_toArray, List.getElem?_cons_succ, List.getElem?_cons_zero, List.getElem?_nil];have hsz' : a.tmps.size = 17 := hsz;have hdf' : a.defers = [] := hdf;have ha := act_lit hsz' hdf';have e0 := hold 0 (unset_of (by kernel_rfl));have e1 := hold 1 (unset_of (by kernel_rfl));have e3 := hold 3 (unset_of (by kernel_rfl));have e4 := hold 4 (unset_of (by kernel_rfl));have e5 := hold 5 (unset_of (by kernel_rfl));have e6 := hold 6 (unset_of (by kernel_rfl));have e7 := hold 7 (unset_of (by kernel_rfl))
   have d8 : a.tmps.getD 8 undef = .int .i64 (m : Int) := hdone 0 _ 8 rfl (by decide) rfl;have d9 : a.tmps.getD 9 undef = .int .i64 ((q : Nat) : Int) := hdone 1 _ 9 rfl (by decide) rfl;have d11 : a.tmps.getD 11 undef = .string Z := hdone 3 _ 11 rfl (by decide) rfl;have d12 : a.tmps.getD 12 undef = .int .i64 (m : Int) := hdone 4 _ 12 rfl (by decide) rfl;have d13 : a.tmps.getD 13 undef = .int .u8 (x.toNat : Int) := hdone 5 _ 13 rfl (by decide) rfl;have d15 : a.tmps.getD 15 undef = .string X1 := hdone 7 _ 15 rfl (by decide) rfl
   have d16 : a.tmps.getD 16 undef = .string (Z ++ X1) := hdone 8 _ 16 rfl (by decide) rfl;have d2 : a.tmps.getD 2 undef = .string (Z ++ X1) := hdone 9 _ 2 rfl (by decide) rfl;clear hold hdone hsz hdf hsz' hdf';simp only [Array.getD_eq_getD_getElem?, List.getElem?_toArray, List.getElem?_cons_succ, List.getElem?_cons_zero, Option.getD_some] at e0 e1 e3 e4 e5 e6 e7 d8 d9 d11 d12 d13 d15 d16 d2;simp only [show (List.range 17) = [0, 1, 2, 3, 4, 5, 6, 7, 8, 9, 10, 11, 12, 13, 14, 15, 16] from rfl, List.map_cons, List.map_nil] at ha
   simp only [e0, e1, e3, e4, e5, e6, e7, d8, d9, d11, d12, d13, d15, d16, d2] at ha;clear e0 e1 e3 e4 e5 e6 e7 d8 d9 d11 d12 d13 d15 d16 d2;generalize a.tmps[10]?.getD undef = u10 at ha;generalize a.tmps[14]?.getD undef = u14 at ha;subst ha;have HB := Lib.hid hS;clear hS;go_wp2_with fail;go_ret;exact ⟨by rw [FIN.out]; rfl, HB.out⟩
 ·obtain rfl : n = (m : Int) := by rw [← hm]; unfold lawM; rw [if_neg hn]; omega
  clear hm;go_enter Tryz.func17, Tryz.ntmps17;go_wp2_with fail;refine region_kit 99 17 [eqV (.int .i64 (m : Int)), eqV (.int .i64 ((q : Nat) : Int)), zrowV q, eqV (.string Z), eqV (.int .i64 (m : Int)), eqV (.int .u8 (x.toNat : Int)), oneV x, eqV (.string X1), eqV (.string (Z ++ X1)), eqV (.string (Z ++ X1))] (by kernel_rfl) (by kernel_rfl) (by rfl) ?owes ?ends
  case owes =>
   refine Fo 0 (fun a wx hS xo xd K HK => ?_) ?_
   ·have d0 := Fl xo 0
    clear xo xd;go_simp;exact HK.out _ _ rfl (Below.refl _ _)
   refine Fo 1 (fun a wx hS xo xd K HK => ?_) ?_
   ·have d8 := Fq xd 0
    clear xo xd;have hq := HQ.out;go_simp;exact HK.out _ _ rfl (Below.refl _ _)
   refine Fo 2 (fun a wx hS xo xd K HK => ?_) ?_
   ·have d9 := Fq xd 1
    clear xo xd;obtain ⟨w3, hmk, hrow, hbel⟩ := made_bytes wx q q (Nat.le_refl _) (by have := HQ40.out; omega);have hmk' : (Instr.makeSlice 62 (.int .i64 (q : Int)) (.int .i64 (q : Int))).run Tryz.prog wx = .ok (.slice (some ⟨wx.heap.size, 0, none⟩) q q) w3 := hmk;clear hmk;go_simp;exact HK.out _ _ ⟨_, rfl, hrow⟩ hbel
   refine Fo 3 (fun a wx hS xo xd K HK => ?_) ?_
   ·obtain ⟨g10, d10, z10⟩ : ∃ g, a.tmps[10]?.getD undef = .slice (some ⟨g, 0, none⟩) q q ∧ Byt 5 wx g (List.replicate q 0) := Fr xd 2
    clear xo xd;have hcv := z10.conv q q (by rw [List.length_replicate]; exact Nat.le_refl _);rw [List.take_of_length_le (by rw [List.length_replicate]; exact Nat.le_refl _), HZ.out] at hcv;have hcv' : (convert 62 9 (.slice (some ⟨g10, 0, none⟩) q q)).run Tryz.prog wx = .ok (.string Z) wx := hcv;clear hcv;go_simp;exact HK.out _ _ rfl (Below.refl _ _)
   refine Fo 4 (fun a wx hS xo xd K HK => ?_) ?_
   ·have d0 := Fl xo 0
    clear xo xd;go_simp;exact HK.out _ _ rfl (Below.refl _ _)
   refine Fo 5 (fun a wx hS xo xd K HK => ?_) ?_
   ·have d12 := Fq xd 4
    clear xo xd;go_simp;refine HK.out _ _ ?_ (Below.refl _ _)
    show _ = _
    first | rfl | simp only [HX.out]
   refine Fo 6 (fun a wx hS xo xd K HK => ?_) ?_
   ·have d13 := Fq xd 5
    clear xo xd;go_simp;exact HK.out _ _ ⟨_, rfl, heap_alloc_new wx _⟩ (below_made _ _)
   refine Fo 7 (fun a wx hS xo xd K HK => ?_) ?_
   ·obtain ⟨g14, d14, z14⟩ : ∃ g, a.tmps[14]?.getD undef = .slice (some ⟨g, 0, none⟩) 1 1 ∧ Byt 5 wx g [x] := Fr xd 6
    clear xo xd;have hcv := z14.conv 1 1 (Nat.le_refl _);rw [show ([x] : List UInt8).take 1 = [x] from rfl, HX1.out] at hcv;have hcv' : (convert 62 9 (.slice (some ⟨g14, 0, none⟩) 1 1)).run Tryz.prog wx = .ok (.string X1) wx := hcv;clear hcv;go_simp;exact HK.out _ _ rfl (Below.refl _ _)
   refine Fo 8 (fun a wx hS xo xd K HK => ?_) ?_
   ·have d11 := Fq xd 3
    have d15 := Fq xd 7;clear xo xd;have hs := HSZ.out;go_simp;exact HK.out _ _ rfl (Below.refl _ _)
   refine Fo 9 (fun a wx hS xo xd K HK => ?_) ?_
   ·have d16 := Fq xd 8
    clear xo xd;go_simp;exact HK.out _ _ rfl (Below.refl _ _)
   exact OwesAll.nil
  case ends =>
   intro a wx hS hsz hdf hold hdone;simp only [List.getElem?_toArray, List.getElem?_cons_succ, List.getElem?_cons_zero, List.getElem?_nil];have hsz' : a.tmps.size = 17 := hsz;have hdf' : a.defers = [] := hdf;have ha := act_lit hsz' hdf';have e0 := hold 0 (unset_of (by kernel_rfl));have e1 := hold 1 (unset_of (by kernel_rfl));have e3 := hold 3 (unset_of (by kernel_rfl));have e4 := hold 4 (unset_of (by kernel_rfl));have e5 := hold 5 (unset_of (by kernel_rfl));have e6 := hold 6 (unset_of (by kernel_rfl));have e7 := hold 7 (unset_of (by kernel_rfl))
   have d8 : a.tmps.getD 8 undef = .int .i64 (m : Int) := hdone 0 _ 8 rfl (by decide) rfl;have d9 : a.tmps.getD 9 undef = .int .i64 ((q : Nat) : Int) := hdone 1 _ 9 rfl (by decide) rfl;have d11 : a.tmps.getD 11 undef = .string Z := hdone 3 _ 11 rfl (by decide) rfl;have d12 : a.tmps.getD 12 undef = .int .i64 (m : Int) := hdone 4 _ 12 rfl (by decide) rfl;have d13 : a.tmps.getD 13 undef = .int .u8 (x.toNat : Int) := hdone 5 _ 13 rfl (by decide) rfl;have d15 : a.tmps.getD 15 undef = .string X1 := hdone 7 _ 15 rfl (by decide) rfl
   have d16 : a.tmps.getD 16 undef = .string (Z ++ X1) := hdone 8 _ 16 rfl (by decide) rfl;have d2 : a.tmps.getD 2 undef = .string (Z ++ X1) := hdone 9 _ 2 rfl (by decide) rfl;clear hold hdone hsz hdf hsz' hdf';simp only [Array.getD_eq_getD_getElem?, List.getElem?_toArray, List.getElem?_cons_succ, List.getElem?_cons_zero, Option.getD_some] at e0 e1 e3 e4 e5 e6 e7 d8 d9 d11 d12 d13 d15 d16 d2;simp only [show (List.range 17) = [0, 1, 2, 3, 4, 5, 6, 7, 8, 9, 10, 11, 12, 13, 14, 15, 16] from rfl, List.map_cons, List.map_nil] at ha
   simp only [e0, e1, e3, e4, e5, e6, e7, d8, d9, d11, d12, d13, d15, d16, d2] at ha;clear e0 e1 e3 e4 e5 e6 e7 d8 d9 d11 d12 d13 d15 d16 d2;generalize a.tmps[10]?.getD undef = u10 at ha;generalize a.tmps[14]?.getD undef = u14 at ha;subst ha;have HB := Lib.hid hS;clear hS;go_wp2_with fail;go_ret;exact ⟨by rw [FIN.out]; rfl, HB.out⟩
end Go.Proofs.YtmomlhiokggfbaaGreatDoor
namespace Go.Proofs.YtmomlhiokggfbaaGreatDoor
open Go.RowKit
set_option linter.unusedVariables false
set_option maxRecDepth 20000
set_option maxHeartbeats 12800000
section
variable {P : Program} {w : World} {m : Nat} {L : List (Int × Value)} {t k e : TypeId} (ht : P.underlying t = some (.map k e)) (hk : P.underlying k = some (.int .u64))
include ht hk
end
end Go.Proofs.YtmomlhiokggfbaaGreatDoor
namespace Go.Proofs.YtmomlhiokggfbaaGreatDoor
open Go.RowKit
set_option linter.unusedVariables false
set_option linter.unusedSimpArgs false
set_option maxRecDepth 20000
set_option maxHeartbeats 12800000
theorem int_cellA {w : World} {a : Option Addr} {len cap : Nat} {zs : List Int} (hk : IsInts .i64 w a len cap zs) (j : Nat) (hj : j < len) : ∃ (x : Addr) (z : Int), a = some x ∧ zs.getD j 0 = z ∧ (-9223372036854775808 ≤ z ∧ z ≤ 9223372036854775807) ∧ Hid (∀ wr, Below w.heap.size w wr → wr.cell? (x.add j) = some (.int .i64 z)) := by
 rcases hk with ⟨rfl, rfl, rfl, rfl⟩ | ⟨x, rfl, h1, h2, h3, h4, h5⟩
 ·omega
 ·have hjl : j < zs.length := by omega
  refine ⟨x, _, rfl, rfl, ?_, Lib.hid fun wr hb => ?_⟩
  ·have hm : zs.getD j 0 ∈ zs := by
    rw [List.getD_eq_getElem?_getD, List.getElem?_eq_getElem hjl];exact List.getElem_mem hjl
   have hw := h5 _ hm;generalize zs.getD j 0 = z at hw ⊢;simp [Lit.wf] at hw;have e1 : IntKind.i64.min = -9223372036854775808 := by rfl
   have e2 : IntKind.i64.max = 9223372036854775807 := by rfl
   omega
  ·have hc := h4 j hjl
   have hlt : (x.add j).block < w.heap.size := by
    unfold World.cell? at hc
    cases hq : w.heap[(x.add j).block]? with
    | none => rw [hq] at hc; simp at hc
    | some b => exact (Array.getElem?_eq_some_iff.1 hq).1
   exact (hb.cell hlt).trans hc
theorem ints_len {w : World} {a : Option Addr} {len cap : Nat} {zs : List Int} (hk : IsInts .i64 w a len cap zs) : (len : Int) ≤ 9223372036854775807 := by
 rcases hk with ⟨_, rfl, _, _⟩ | ⟨_, _, h1, h2, _⟩
 ·decide
 ·unfold maxLen at h2; omega
theorem examples_yes11 (w : World) :
  Calls Tryz.prog 13 #[] w fun e w' => e = .returned (.bool true) ∧ Below w.heap.size w w' := by
 have NY := Lib.hid fun w => new_yes w 20 (by decide) (by decide)
 have FG := Lib.hid (fmt_good (DkS.fresh 20) rfl rfl (by decide) (by decide));obtain ⟨V, hV⟩ : ∃ V : ByteArray, (⟨#[102, 105, 118, 101]⟩ : ByteArray) = V := ⟨_, rfl⟩
 have HV := Lib.hid hV;have hvv : V.toList == [102, 105, 118, 101] := by rw [← hV]; decide +kernel
 go_enter Tryz.func13, Tryz.ntmps13;try simp only [List.append_eq, List.cons_append, List.nil_append]
 go_wp2_with fail;refine (NY.out _).mono ?_;rintro e w1 ⟨d, FD, rfl, hd, hb, hF⟩;have HD := Lib.hid hd;have HB := Lib.hid hb;have HF := Lib.hid hF;have pn := ptr_nilD ⟨d, 0, none⟩;clear hd hb hF NY;go_wp2_with fail;refine (format_is w1 d (DkS.fresh 20) FD HD.out).mono ?_;intro e w3 hp;obtain ⟨v, rfl, s, FS, FD', rfl, hds, hf3, hn3, hs3⟩ := hp.1 FG.out.1
 have T0 : Hid (TrR w [] w3 d s 20 0 []) := by
  obtain ⟨g1, g2, g3, g4⟩ := FG.out;refine Lib.hid ⟨HB.out.trans (hf3.below (fun k hk => HF.out k hk) HB.out.size), fun k => FD' k ∨ FS k, ⟨_, _, ⟨FD', FS, hds, fun _ => Iff.rfl⟩, g2, g3, g4, rfl⟩, fun k hk => ?_, fun k hk => by cases hk⟩;have := HB.out.size
  rcases hk with hk | hk
  ·rcases hn3 k hk with h1 | h1
   ·exact HF.out k h1
   ·omega
  ·have := hs3 k hk; omega
 have pn2 := ptr_nilS ⟨s, 0, none⟩;clear hp hds hf3 hn3 hs3 HD HB HF FG
 have PU : Hid (Calls Tryz.prog 16 #[.pointer (some ⟨s, 0, none⟩), .int .i64 0, .int .u64 5, .string V] w3 fun e w' => ∃ q, e = .returned (.tuple #[.int .i64 q, .int .i64 0]) ∧ TrR w [] w' d s 20 q [(5, V)] ∧ KeptL [] w3 w') := Lib.hid (by
  have := put_R T0.out 0 (by decide) (by simp) (by simp) 5 (by decide) V (by rw [← HV.out]; decide);exact this)
 go_wp2_with fail;refine PU.out.mono ?_;rintro e w4 ⟨q, rfl, hT, hKK⟩;clear hKK;have T1 := Lib.hid hT
 have GE : Hid (Calls Tryz.prog 22 #[.pointer (some ⟨s, 0, none⟩), .int .i64 q, .int .u64 5] w4 fun e w' => e = .returned (.tuple #[.string V, .bool true, .int .i64 0]) ∧ Below w4.heap.size w4 w') := Lib.hid (by
  have := get_R hT (by simp) 5 (by decide);rw [show getV 5 [(5, V)] = V from by simp [getV, getE], show getB 5 [(5, V)] = true from by simp [getB, getE]] at this;exact this)
 clear hT PU T0;go_wp2_with fail;refine GE.out.mono ?_;rintro e w5 ⟨rfl, b5⟩;have T2 := Lib.hid (T1.out.below b5);clear b5 T1 GE;go_wp2_with fail;refine (getNil_R T2.out 5 (by decide)).mono ?_;rintro e w6 ⟨rfl, b6⟩;have T3 := Lib.hid (T2.out.below b6);clear b6 T2
 have DE : Hid (Calls Tryz.prog 18 #[.pointer (some ⟨s, 0, none⟩), .int .i64 q, .int .u64 5] w6 fun e w' => e = .returned (.tuple #[.int .i64 0, .bool true, .int .i64 0]) ∧ Below w.heap.size w w') := Lib.hid (by
  have := del_R T3.out 0 (by decide) (by simp) (by simp) 5 (by decide);rw [show getB 5 [(5, V)] = true from by simp [getB, getE]] at this;refine this.mono ?_;rintro e w' ⟨q2, rfl, hT, hKK⟩;obtain rfl : q2 = 0 := root_nil hT (by simp [delE]);exact ⟨rfl, hT.size⟩)
 go_wp2_with fail;refine DE.out.mono ?_;rintro e w7 ⟨rfl, b7⟩;have HBB := Lib.hid b7;clear b7 DE T3;go_wp2_with fail;go_ret;exact ⟨rfl, HBB.out⟩
structure OrI (w1 w : World) (b d x' s r' : Nat) (E : List Ent) (root : Int) (c d2 x2 s2 r2 : Nat) (E2 : List Ent) (root2 : Int) : Prop where
 tr : TrQ w1 [b, c] 400 w d s root E d2 s2 root2 E2
 cb : w.heap[b]? = some (.cells #[.pointer (some ⟨d, 0, none⟩), .pointer (some ⟨x', 0, none⟩), .pointer (some ⟨s, 0, none⟩), .pointer (some ⟨r', 0, none⟩), .int .i64 root] 39)
 cc : w.heap[c]? = some (.cells #[.pointer (some ⟨d2, 0, none⟩), .pointer (some ⟨x2, 0, none⟩), .pointer (some ⟨s2, 0, none⟩), .pointer (some ⟨r2, 0, none⟩), .int .i64 root2] 39)
 lb : w1.heap.size ≤ b
 lc : w1.heap.size ≤ c
 ne : b ≠ c
theorem OrI.put {w1 w w6 w7 w8 : World} {b d x' s r' : Nat} {E E' : List Ent} {root q : Int} {c d2 x2 s2 r2 : Nat} {E2 E2' : List Ent} {root2 q2 : Int} (h : OrI w1 w b d x' s r' E root c d2 x2 s2 r2 E2 root2) (hT : TrQ w1 [b, c] 400 w6 d s q E' d2 s2 q2 E2')
  (hb : w6.heap[b]? = w.heap[b]?) (hc : w6.heap[c]? = w.heap[c]?) (h7 : w6.setCell ⟨b, 4, none⟩ (.int .i64 q) = w7) (h8 : w7.setCell ⟨c, 4, none⟩ (.int .i64 q2) = w8) : OrI w1 w8 b d x' s r' E' q c d2 x2 s2 r2 E2' q2 := by
 have f7 : Frm (fun k => k = b) w6 w7 := by rw [← h7]; exact set_frm _
 have f8 : Frm (fun k => k = c) w7 w8 := by rw [← h8]; exact set_frm _
 have hlb := hT.lt b (by simp);have hlc := hT.lt c (by simp);refine ⟨(hT.turn (by simp) h.lb f7).turn (by simp) h.lc f8, ?_, ?_, h.lb, h.lc, h.ne⟩
 ·rw [f8.block b (Nat.lt_of_lt_of_le hlb f7.size) h.ne, ← h7, heap_setCell_same _ _ 4 _ _ _ (hb.trans h.cb)]
  rfl
 ·rw [← h8, heap_setCell_same _ _ 4 _ _ _ ((f7.block c hlc (Ne.symm h.ne)).trans (hc.trans h.cc))]
  rfl
structure OKeys (zs : List Int) (n j : Nat) (E E2 : List Ent) : Prop where
 s : SortE E
 s2 : SortE E2
 k : ∀ x, x ∈ keysE E ↔ ∃ i, i < j ∧ x = lawK (zs.getD i 0)
 k2 : ∀ x, x ∈ keysE E2 ↔ ∃ i, i < j ∧ x = lawK (zs.getD (n - 1 - i) 0)
 l : E.length ≤ j
 l2 : E2.length ≤ j
theorem OKeys.start (zs : List Int) (n : Nat) : OKeys zs n 0 [] [] :=
 ⟨List.Pairwise.nil, List.Pairwise.nil, fun x => by simp [keysE], fun x => by simp [keysE], Nat.le_refl _, Nat.le_refl _⟩
theorem OKeys.step {zs : List Int} {n j : Nat} {E E2 : List Ent} (h : OKeys zs n j E E2) {z z2 : Int} (hz : zs.getD j 0 = z) (hz2 : zs.getD (n - 1 - j) 0 = z2) (v v2 : ByteArray) : OKeys zs n (j + 1) (insE (lawK z) v E) (insE (lawK z2) v2 E2) := by
 refine ⟨sortE_ins h.s _ _, sortE_ins h.s2 _ _, fun x => ?_, fun x => ?_, by have := insE_len (lawK z) v E; have := h.l; omega, by have := insE_len (lawK z2) v2 E2; have := h.l2; omega⟩
 ·rw [mem_insE, h.k]
  constructor
  ·rintro (rfl | ⟨i, hi, rfl⟩)
   ·exact ⟨j, by omega, by rw [hz]⟩
   ·exact ⟨i, by omega, rfl⟩
  ·rintro ⟨i, hi, rfl⟩
   by_cases e : i = j
   ·subst e; exact .inl (by rw [hz])
   ·exact .inr ⟨i, by omega, rfl⟩
 ·rw [mem_insE, h.k2]
  constructor
  ·rintro (rfl | ⟨i, hi, rfl⟩)
   ·exact ⟨j, by omega, by rw [hz2]⟩
   ·exact ⟨i, by omega, rfl⟩
  ·rintro ⟨i, hi, rfl⟩
   by_cases e : i = j
   ·subst e; exact .inl (by rw [hz2])
   ·exact .inr ⟨i, by omega, rfl⟩
theorem OKeys.same {zs : List Int} {n : Nat} {E E2 : List Ent} (h : OKeys zs n n E E2) : keysE E = keysE E2 := by
 refine keys_same h.s h.s2 fun x => ?_
 rw [h.k, h.k2];constructor
 ·rintro ⟨i, hi, rfl⟩
  exact ⟨n - 1 - i, by omega, by rw [show n - 1 - (n - 1 - i) = i by omega]⟩
 ·rintro ⟨i, hi, rfl⟩
  exact ⟨n - 1 - i, by omega, rfl⟩
theorem keysE_scan (k : Int) (E : List Ent) : keysE (scanE k E) = (keysE E).filter fun x => decide (k ≤ x) := by
 unfold keysE scanE;rw [List.filter_map]
 rfl
theorem OKeys.scanned {zs : List Int} {n : Nat} {E E2 A B : List Ent} (h : OKeys zs n n E E2) (hA : A = scanE 0 E) (hB : B = scanE 0 E2) : A.length = B.length ∧ ∀ (m : Nat) (k : Int) (v : ByteArray), A[m]? = some (k, v) → (0 ≤ k ∧ getV k E = v ∧ getB k E = true) ∧ ∃ v2, B[m]? = some (k, v2) := by
 have hk : keysE A = keysE B := by rw [hA, hB, keysE_scan, keysE_scan, h.same]
 have hl : A.length = B.length := by
  have := congrArg List.length hk;unfold keysE at this
  simpa using this
 refine ⟨hl, fun m k v hm => ⟨?_, ?_⟩⟩
 ·have hmem := List.mem_of_getElem? hm
  rw [hA] at hmem;have h1 := List.mem_filter.1 hmem;exact ⟨of_decide_eq_true h1.2, getE_some ((getE_mem h.s).1 h1.1)⟩
 ·have hlt : m < B.length := by rw [← hl]; exact (List.getElem?_eq_some_iff.1 hm).1
  have h2 : (keysE A)[m]? = (keysE B)[m]? := by rw [hk]
  unfold keysE at h2;rw [List.getElem?_map, List.getElem?_map, hm, List.getElem?_eq_getElem hlt] at h2;simp at h2;exact ⟨(B[m]).2, by rw [List.getElem?_eq_getElem hlt, h2]⟩
theorem treeOrders_law (a : Option Addr) (len cap : Nat) (zs : List Int) (w : World) (hk : IsInts .i64 w a len cap zs) :
  Calls Tryz.prog 7 #[.slice a len cap] w fun e w' => e = .returned (.bool true) ∧ Below w.heap.size w w' := by
 have BG := Lib.hid (fun w => begins_is w 400 (by decide) (by decide));have CELLS := Lib.hid (int_cellA hk);have hlenL := ints_len hk
 obtain ⟨n, hmn, hn1, hn2⟩ : ∃ n : Nat, (if (40 : Int) < (len : Int) then (40 : Int) else (len : Int)) = (n : Int) ∧ n ≤ len ∧ n ≤ 40 := by
  by_cases h : (40 : Int) < (len : Int)
  ·exact ⟨40, by rw [if_pos h]; rfl, by omega, Nat.le_refl _⟩
  ·exact ⟨len, by rw [if_neg h], Nat.le_refl _, by omega⟩
 have hmn2 : min (len : Int) 40 = (n : Int) := by omega
 have HN := Lib.hid (And.intro hn1 hn2);clear hk hn1 hn2;go_enter Tryz.func7, Tryz.ntmps7;try simp only [List.append_eq, List.cons_append, List.nil_append]
 go_wp2_with fail;refine (examples_yes11 _).mono ?_;rintro e w1 ⟨rfl, b1⟩;have B1 := Lib.hid b1;clear b1;go_wp2_with fail;refine (BG.out _).mono ?_;rintro e w2 ⟨b, d, x', s, r', rfl, hcb, hlo, htr⟩;have HA1 := Lib.hid (And.intro hcb (And.intro hlo htr));clear hcb hlo htr;go_wp2_with fail;refine (BG.out _).mono ?_;rintro e w3 ⟨c, d2, x2, s2, r2, rfl, hcc, hlo2, htr2⟩
 have HI0 : Hid (OrI w1 w3 b d x' s r' [] 0 c d2 x2 s2 r2 [] 0) := by
  obtain ⟨hcb, hlo, htr⟩ := HA1.out;have hlt := htr.lt b (by simp);exact Lib.hid ⟨TrQ.of htr htr2 hlo2, (htr2.size.block b hlt).trans hcb, hcc, hlo, Nat.le_trans htr.size.size hlo2, by omega⟩
 clear hcc hlo2 htr2 BG HA1;go_wp2_with fail
 go_loopw [9, 10, 11, 12, 13] (fun i _ _ _ _ wr => ∃ (j : Nat) (E : List Ent) (root : Int) (E2 : List Ent) (root2 : Int), j ≤ n ∧ i = .int .i64 (j : Int) ∧ Hid (OKeys zs n j E E2) ∧ Hid (OrI w1 wr b d x' s r' E root c d2 x2 s2 r2 E2 root2)) (fun i _ _ _ _ _ => 41 - (intOf i).toNat)
 case atStart => exact ⟨0, [], 0, [], 0, Nat.zero_le _, rfl, Lib.hid (OKeys.start _ _), HI0⟩
 case round =>
  obtain ⟨j, E, root, E2, root2, hj, rfl, HKS, HI⟩ := hrel
  by_cases hlt : j < n
  ·have hli : (j : Int) < (n : Int) := by omega
   have hN := HN.out;obtain ⟨p, hp⟩ : ∃ p : Nat, n - 1 - j = p := ⟨_, rfl⟩
   obtain ⟨g, hg⟩ : ∃ g : Nat, n - 1 = g := ⟨_, rfl⟩
   have eg : IntKind.i64.wrap ((n : Int) - 1) = (g : Int) := by rw [show (n : Int) - 1 = (g : Int) by omega]; exact IntWalk.i64_in _ (by omega)
   have ep : IntKind.i64.wrap ((g : Int) - (j : Int)) = (p : Int) := by rw [show (g : Int) - (j : Int) = (p : Int) by omega]; exact IntWalk.i64_in _ (by omega)
   have hjli : (j : Int) < (len : Int) := by omega
   have hpli : (p : Int) < (len : Int) := by omega
   obtain ⟨x, z, hax, hz, ⟨hz1, hz2⟩, CELL⟩ := CELLS.out j (by omega);obtain ⟨y, z2, hay, hz', ⟨hy1, hy2⟩, CELL2⟩ := CELLS.out p (by omega);subst hax;injection hay with hay;subst hay;have HZ := Lib.hid (And.intro hz (show zs.getD (n - 1 - j) 0 = z2 by rw [hp]; exact hz'));have HZ1 := Lib.hid (And.intro hz1 hz2);have HZ2 := Lib.hid (And.intro hy1 hy2);have HJL : Hid (j + 1 ≤ n ∧ n ≤ 40) := Lib.hid ⟨by omega, hN.2⟩;have HE5 : Hid (E.length < 2 ^ (5 + 1)) := Lib.hid (by have := HKS.out.l; omega);have HN5 : Hid (2 * E.length + 2 * 5 + 5 ≤ 400) := Lib.hid (by have := HKS.out.l; omega)
   have HF5 : Hid (E2.length < 2 ^ (5 + 1)) := Lib.hid (by have := HKS.out.l2; omega);have HM5 : Hid (2 * E2.length + 2 * 5 + 5 ≤ 400) := Lib.hid (by have := HKS.out.l2; omega);have e4 : IntKind.i64.wrap ((j : Int) + 1) = ((j + 1 : Nat) : Int) := by rw [show (j : Int) + 1 = ((j + 1 : Nat) : Int) by omega]; exact IntWalk.i64_in _ (by omega)
   have TT := Lib.hid (And.intro (HI.out.tr.below (Below.refl _ _).drew) (show KeptL [b, c] wr wr.drew from fun _ _ => rfl));clear hj hlt hN hp hg hz hz' hz1 hz2 hy1 hy2;go_upto_region 12 with fail
   refine wp_region_held_drew (S := fun w' => Below w1.heap.size w1 w' ∧ w'.heap[b]? = some (.cells #[.pointer (some ⟨d, 0, none⟩), .pointer (some ⟨x', 0, none⟩), .pointer (some ⟨s, 0, none⟩), .pointer (some ⟨r', 0, none⟩), .int .i64 root] 39)) (by kernel_rfl) ⟨TT.out.1.size, HI.out.cb⟩ (fun hS => ?_);refine Hu 0 48 hS ?_;simp only [SL];refine Hu 1 49 hS ?_;simp only [SL];refine Hu 2 50 hS ?_;simp only [SL];refine Hv 3 51 ?va3x4 hS ?ha3x4 ?_
   case ha3x4 =>
    intro w9 s9;obtain ⟨q0, q1, q2, q3, q4, _⟩ := cells5 s9.2;clear s9;go_simp;try (with_reducible rfl)
   simp only [SL];refine Hu 4 52 hS ?_;simp only [SL];refine Hu 5 53 hS ?_;simp only [SL];refine Hu 6 54 hS ?_;simp only [SL];refine Hv 7 55 ?va7x8 hS ?ha7x8 ?_
   case ha7x8 =>
    intro w9 s9;obtain ⟨q0, q1, q2, q3, q4, _⟩ := cells5 s9.2;clear s9;go_simp;try (with_reducible rfl)
   simp only [SL];refine Hu 8 56 hS ?_;simp only [SL];refine Hu 9 57 hS ?_;simp only [SL];refine Hu 10 58 hS ?_;simp only [SL];refine Hv 11 59 ?va11x12 hS ?ha11x12 ?_
   case ha11x12 =>
    intro w9 s9;have ca := CELL.out w9 (chain B1.out s9.1);clear s9;go_simp;try (with_reducible rfl)
   simp only [SL];refine Hu 13 61 hS ?_;simp only [SL];refine Hu 14 62 hS ?_;simp only [SL];refine Hu 15 63 hS ?_;simp only [SL];refine Hv 16 64 ?va16x16 hS ?ha16x16 ?_
   case ha16x16 =>
    intro w9 s9;have ca := CELL.out w9 (chain B1.out s9.1);clear s9;go_simp;try (with_reducible rfl)
   simp only [SL];refine Hs 12 (fun K HK => ?_);go_simp;go_wp2_with fail;refine (key_is _ z HZ1.out.1 HZ1.out.2).mono ?_;rintro e w6 ⟨rfl, b6⟩;refine HK.out _ _ ?_ ?_
   ·exact ⟨chain hS.1 b6, (b6.block _ (Array.getElem?_eq_some_iff.1 hS.2).1).trans hS.2⟩
   clear HK K;try simp only [Act.put, SL]
   have hS' := And.intro (chain hS.1 b6) ((b6.block _ (Array.getElem?_eq_some_iff.1 hS.2).1).trans hS.2);clear hS;have hS := hS';clear hS';have TTn := Lib.hid (And.intro (TT.out.1.below b6) (TT.out.2.trans (TT.out.1.kept b6)));clear TT b6;have TT := TTn;clear TTn;refine Hs 17 (fun K HK => ?_);go_simp;go_wp2_with fail;refine (value_is _ z HZ1.out.1 HZ1.out.2).mono ?_;rintro e w6 ⟨rfl, b6⟩;refine HK.out _ _ ?_ ?_
   ·exact ⟨chain hS.1 b6, (b6.block _ (Array.getElem?_eq_some_iff.1 hS.2).1).trans hS.2⟩
   clear HK K;try simp only [Act.put, SL]
   have hS' := And.intro (chain hS.1 b6) ((b6.block _ (Array.getElem?_eq_some_iff.1 hS.2).1).trans hS.2);clear hS;have hS := hS';clear hS';have TTn := Lib.hid (And.intro (TT.out.1.below b6) (TT.out.2.trans (TT.out.1.kept b6)));clear TT b6;have TT := TTn;clear TTn;refine Hs 18 (fun K HK => ?_);go_simp;go_wp2_with fail;refine (put_Q TT.out.1 5 (by decide) HE5.out HN5.out _ (lawK_ok z) _ (lawV_size z)).mono ?_;rintro e w6 ⟨q, rfl, hT, hK⟩;refine HK.out _ _ ?_ ?_
   ·exact ⟨hT.size, (hK b (by simp)).trans hS.2⟩
   clear HK K;try simp only [Act.put, SL]
   have hS' := And.intro hT.size ((hK b (by simp)).trans hS.2);clear hS;have hS := hS';clear hS';have TTn := Lib.hid (And.intro hT (TT.out.2.trans hK));clear TT hT hK;have TT := TTn;clear TTn;refine Hu 19 47 hS ?_;simp only [SL];refine Hu 20 67 hS ?_;simp only [SL];refine Hu 21 68 hS ?_;simp only [SL];refine Hu 22 10 hS ?_;simp only [SL];refine Hu 23 11 hS ?_;simp only [SL];refine wpAnyH_done (by kernel_rfl) ?_ _;obtain ⟨wA, hwA⟩ : ∃ wA, wA = w6 := ⟨_, rfl⟩
   subst hwA;have TA := Lib.hid (show TrQ w1 [b, c] 400 wA d s q _ d2 s2 root2 E2 ∧ KeptL [b, c] wr wA from ⟨TT.out.1, fun k hk => TT.out.2 k hk⟩);have TT2 := Lib.hid (And.intro (TT.out.1.below (Below.refl _ _).drew) (show KeptL [b, c] wA wA.drew from fun _ _ => rfl));have CC := Lib.hid ((TT.out.2 c (by simp)).trans HI.out.cc);clear TT hS;have TT := TT2;clear TT2;go_upto_region 13 with fail
   refine wp_region_held_drew (S := fun w' => Below w1.heap.size w1 w' ∧ w'.heap[c]? = some (.cells #[.pointer (some ⟨d2, 0, none⟩), .pointer (some ⟨x2, 0, none⟩), .pointer (some ⟨s2, 0, none⟩), .pointer (some ⟨r2, 0, none⟩), .int .i64 root2] 39)) (by kernel_rfl) ⟨TT.out.1.size, CC.out⟩ (fun hS => ?_);refine Hu 0 70 hS ?_;simp only [SL];refine Hu 1 71 hS ?_;simp only [SL];refine Hu 2 72 hS ?_;simp only [SL];refine Hv 3 73 ?vb3x4 hS ?hb3x4 ?_
   case hb3x4 =>
    intro w9 s9;obtain ⟨q0, q1, q2, q3, q4, _⟩ := cells5 s9.2;clear s9;go_simp;try (with_reducible rfl)
   simp only [SL];refine Hu 4 74 hS ?_;simp only [SL];refine Hu 5 75 hS ?_;simp only [SL];refine Hu 6 76 hS ?_;simp only [SL];refine Hv 7 77 ?vb7x8 hS ?hb7x8 ?_
   case hb7x8 =>
    intro w9 s9;obtain ⟨q0, q1, q2, q3, q4, _⟩ := cells5 s9.2;clear s9;go_simp;try (with_reducible rfl)
   simp only [SL];refine Hu 8 78 hS ?_;simp only [SL];refine Hu 9 79 hS ?_;simp only [SL];refine Hu 10 80 hS ?_;simp only [SL];refine Hu 11 81 hS ?_;simp only [SL];refine Hu 12 82 hS ?_;simp only [SL];refine Hu 13 83 hS ?_;simp only [SL];refine Hv 14 84 ?vb14x15 hS ?hb14x15 ?_
   case hb14x15 =>
    intro w9 s9;have ca := CELL2.out w9 (chain B1.out s9.1);clear s9;go_simp;try (with_reducible rfl)
   simp only [SL];refine Hu 16 86 hS ?_;simp only [SL];refine Hu 17 87 hS ?_;simp only [SL];refine Hu 18 88 hS ?_;simp only [SL];refine Hu 19 89 hS ?_;simp only [SL];refine Hu 20 90 hS ?_;simp only [SL];refine Hu 21 91 hS ?_;simp only [SL];refine Hv 22 92 ?vb22x22 hS ?hb22x22 ?_
   case hb22x22 =>
    intro w9 s9;have ca := CELL2.out w9 (chain B1.out s9.1);clear s9;go_simp;try (with_reducible rfl)
   simp only [SL];refine Hs 15 (fun K HK => ?_);go_simp;go_wp2_with fail;refine (key_is _ z2 HZ2.out.1 HZ2.out.2).mono ?_;rintro e w6 ⟨rfl, b6⟩;refine HK.out _ _ ?_ ?_
   ·exact ⟨chain hS.1 b6, (b6.block _ (Array.getElem?_eq_some_iff.1 hS.2).1).trans hS.2⟩
   clear HK K;try simp only [Act.put, SL]
   have hS' := And.intro (chain hS.1 b6) ((b6.block _ (Array.getElem?_eq_some_iff.1 hS.2).1).trans hS.2);clear hS;have hS := hS';clear hS';have TTn := Lib.hid (And.intro (TT.out.1.below b6) (TT.out.2.trans (TT.out.1.kept b6)));clear TT b6;have TT := TTn;clear TTn;refine Hs 23 (fun K HK => ?_);go_simp;go_wp2_with fail;refine (value_is _ z2 HZ2.out.1 HZ2.out.2).mono ?_;rintro e w6 ⟨rfl, b6⟩;refine HK.out _ _ ?_ ?_
   ·exact ⟨chain hS.1 b6, (b6.block _ (Array.getElem?_eq_some_iff.1 hS.2).1).trans hS.2⟩
   clear HK K;try simp only [Act.put, SL]
   have hS' := And.intro (chain hS.1 b6) ((b6.block _ (Array.getElem?_eq_some_iff.1 hS.2).1).trans hS.2);clear hS;have hS := hS';clear hS';have TTn := Lib.hid (And.intro (TT.out.1.below b6) (TT.out.2.trans (TT.out.1.kept b6)));clear TT b6;have TT := TTn;clear TTn;refine Hs 24 (fun K HK => ?_);go_simp;go_wp2_with fail;refine (put_Q2 TT.out.1 5 (by decide) HF5.out HM5.out _ (lawK_ok z2) _ (lawV_size z2)).mono ?_;rintro e w6 ⟨q2, rfl, hT, hK⟩;refine HK.out _ _ ?_ ?_
   ·exact ⟨hT.size, (hK c (by simp)).trans hS.2⟩
   clear HK K;try simp only [Act.put, SL]
   have hS' := And.intro hT.size ((hK c (by simp)).trans hS.2);clear hS;have hS := hS';clear hS';have TTn := Lib.hid (And.intro hT (TT.out.2.trans hK));clear TT hT hK;have TT := TTn;clear TTn;refine Hu 25 69 hS ?_;simp only [SL];refine Hu 26 95 hS ?_;simp only [SL];refine Hu 27 96 hS ?_;simp only [SL];refine Hu 28 12 hS ?_;simp only [SL];refine Hu 29 13 hS ?_;simp only [SL];refine wpAnyH_done (by kernel_rfl) ?_ _;have KB : w6.heap[b]? = wr.heap[b]? := (TT.out.2 b (by simp)).trans (TA.out.2 b (by simp));have KC : w6.heap[c]? = wr.heap[c]? := (TT.out.2 c (by simp)).trans (TA.out.2 c (by simp))
   obtain ⟨_, _, _, _, p4, pf⟩ := cells5 (KB.trans HI.out.cb);have pf4 := pf 4;clear pf;obtain ⟨w7, hw7⟩ : ∃ w7, w6.setCell ⟨b, 4, none⟩ (.int .i64 q) = w7 := ⟨_, rfl⟩
   obtain ⟨w8, hw8⟩ : ∃ w8, w7.setCell ⟨c, 4, none⟩ (.int .i64 q2) = w8 := ⟨_, rfl⟩
   have FIN := Lib.hid (HI.out.put TT.out.1 KB KC hw7 hw8)
   have PF7 : Hid (w7.cell? ⟨c, 4, none⟩ = some (.int .i64 root2) ∧ w7.frozen? ⟨c, 4, none⟩ = false) := Lib.hid (by
    have f7 : Frm (fun k => k = b) w6 w7 := by rw [← hw7]; exact set_frm _
    obtain ⟨_, _, _, _, c4, cf⟩ := cells5 ((f7.block c (TT.out.1.lt c (by simp)) (Ne.symm HI.out.ne)).trans (KC.trans HI.out.cc));exact ⟨c4, cf 4⟩)
   have HW8 := Lib.hid hw8;clear TT TA hS HI KB KC hw8;go_upto_region 17 with fail
   try rw [hw7]
   clear hw7 pf4 p4;obtain ⟨p7, pf7⟩ := PF7.out;have hw8 := HW8.out;clear PF7 HW8;go_upto_region 11 with fail
   try rw [hw8]
   clear hw8 pf7 p7;go_wp2_with fail;go_roundw
   case rel => exact ⟨j + 1, _, _, _, _, HJL.out.1, rfl, Lib.hid (HKS.out.step HZ.out.1 HZ.out.2 _ _), FIN⟩
   case measure => have := HJL.out; simp [intOf]; omega
  ·obtain rfl : j = n := by omega
   have hli : ¬ (j : Int) < (j : Int) := by omega
   have HE6 : Hid (E.length ≤ 600) := Lib.hid (by have := HKS.out.l; have := HN.out; omega);have HF6 : Hid (E2.length ≤ 600) := Lib.hid (by have := HKS.out.l2; have := HN.out; omega);have TT := Lib.hid (And.intro (HI.out.tr.below (Below.refl _ _).drew) (show KeptL [b, c] wr wr.drew from fun _ _ => rfl));have LN50 : Hid (E.length ≤ 40 ∧ E2.length ≤ 40) := Lib.hid (by have := HKS.out.l; have := HKS.out.l2; have := HN.out; omega);clear hj hlt hlenL CELLS;go_upto_region 18 with fail
   refine wp_region_held_drew (S := fun w' => Below w1.heap.size w1 w' ∧ w'.heap[b]? = some (.cells #[.pointer (some ⟨d, 0, none⟩), .pointer (some ⟨x', 0, none⟩), .pointer (some ⟨s, 0, none⟩), .pointer (some ⟨r', 0, none⟩), .int .i64 root] 39)) (by kernel_rfl) ⟨TT.out.1.size, HI.out.cb⟩ (fun hS => ?_);refine Hu 0 112 hS ?_;simp only [SL];refine Hu 1 113 hS ?_;simp only [SL];refine Hu 2 114 hS ?_;simp only [SL];refine Hv 3 115 ?vr3x4 hS ?hr3x4 ?_
   case hr3x4 =>
    intro w9 s9;obtain ⟨q0, q1, q2, q3, q4, _⟩ := cells5 s9.2;clear s9;go_simp;try (with_reducible rfl)
   simp only [SL];refine Hu 4 116 hS ?_;simp only [SL];refine Hu 5 117 hS ?_;simp only [SL];refine Hu 6 118 hS ?_;simp only [SL];refine Hv 7 119 ?vr7x8 hS ?hr7x8 ?_
   case hr7x8 =>
    intro w9 s9;obtain ⟨q0, q1, q2, q3, q4, _⟩ := cells5 s9.2;clear s9;go_simp;try (with_reducible rfl)
   simp only [SL];refine Hs 8 (fun K HK => ?_);go_simp;go_wp2_with fail;refine (scan_Q TT.out.1 HE6.out _ _).mono ?_;rintro e w6 ⟨v, rfl, hrv, hT0, hK⟩;have hT := hT0.sub (R' := v.ownBlock.toList ++ [b, c]) (fun k hk => by simp only [List.mem_append] at hk ⊢; first | exact hk | exact .inr hk);clear hT0;refine HK.out _ _ ?_ ?_
   ·exact ⟨hT.size, (hK b (by simp)).trans hS.2⟩
   clear HK K;try simp only [Act.put, SL]
   have hS' := And.intro hT.size ((hK b (by simp)).trans hS.2);clear hS;have hS := hS';clear hS';have TTn := Lib.hid (And.intro hT (TT.out.2.trans hK));clear TT hT hK;have TT := TTn;clear TTn;refine Hu 9 111 hS ?_;simp only [SL];refine Hu 10 121 hS ?_;simp only [SL];refine Hu 11 122 hS ?_;simp only [SL];refine Hu 12 14 hS ?_;simp only [SL];refine Hu 13 15 hS ?_;simp only [SL];refine wpAnyH_done (by kernel_rfl) ?_ _;obtain ⟨A, hA⟩ : ∃ A, (scanE 0 E).take (Int.toNat 1000) = A := ⟨_, rfl⟩
   rw [hA] at hrv;have hle : (scanE 0 E).length ≤ 40 := Nat.le_trans (scanE_len 0 E) LN50.out.1;have HAA : Hid (A = scanE 0 E) := Lib.hid (by rw [← hA]; exact List.take_of_length_le (Nat.le_trans hle (by decide)));have HA50 : Hid (A.length ≤ 40) := Lib.hid (by rw [HAA.out]; exact hle);obtain ⟨va0, vc0, rfl⟩ := hrv.shape;have HRV := Lib.hid hrv;obtain ⟨wA, hwA⟩ : ∃ wA, wA = w6 := ⟨_, rfl⟩
   subst hwA;have CCA : Hid (wA.heap[c]? = some (.cells #[.pointer (some ⟨d2, 0, none⟩), .pointer (some ⟨x2, 0, none⟩), .pointer (some ⟨s2, 0, none⟩), .pointer (some ⟨r2, 0, none⟩), .int .i64 root2] 39)) := Lib.hid ((TT.out.2 c (by simp)).trans HI.out.cc);have CBA : Hid (wA.heap[b]? = some (.cells #[.pointer (some ⟨d, 0, none⟩), .pointer (some ⟨x', 0, none⟩), .pointer (some ⟨s, 0, none⟩), .pointer (some ⟨r', 0, none⟩), .int .i64 root] 39)) := Lib.hid hS.2
   have TT2 := Lib.hid (And.intro (TT.out.1.below (Below.refl _ _).drew) (show KeptL ((Value.slice va0 A.length vc0).ownBlock.toList ++ [b, c]) wA wA.drew from fun _ _ => rfl));clear TT;have TT := TT2;clear TT2 hS hrv hA hle;go_upto_region 19 with fail
   refine wp_region_held_drew (S := fun w' => Below w1.heap.size w1 w' ∧ w'.heap[c]? = some (.cells #[.pointer (some ⟨d2, 0, none⟩), .pointer (some ⟨x2, 0, none⟩), .pointer (some ⟨s2, 0, none⟩), .pointer (some ⟨r2, 0, none⟩), .int .i64 root2] 39)) (by kernel_rfl) ⟨TT.out.1.size, CCA.out⟩ (fun hS => ?_);refine Hu 0 124 hS ?_;simp only [SL];refine Hu 1 125 hS ?_;simp only [SL];refine Hu 2 126 hS ?_;simp only [SL];refine Hv 3 127 ?vf3x4 hS ?hf3x4 ?_
   case hf3x4 =>
    intro w9 s9;obtain ⟨q0, q1, q2, q3, q4, _⟩ := cells5 s9.2;clear s9;go_simp;try (with_reducible rfl)
   simp only [SL];refine Hu 4 128 hS ?_;simp only [SL];refine Hu 5 129 hS ?_;simp only [SL];refine Hu 6 130 hS ?_;simp only [SL];refine Hv 7 131 ?vf7x8 hS ?hf7x8 ?_
   case hf7x8 =>
    intro w9 s9;obtain ⟨q0, q1, q2, q3, q4, _⟩ := cells5 s9.2;clear s9;go_simp;try (with_reducible rfl)
   simp only [SL];refine Hs 8 (fun K HK => ?_);go_simp;go_wp2_with fail;refine (scan_Q2 TT.out.1 HF6.out _ _).mono ?_;rintro e w6 ⟨v5, rfl, hrv5, hT0, hK⟩;have hT := hT0.sub (R' := (Value.slice va0 A.length vc0).ownBlock.toList ++ [b, c]) (fun k hk => by simp only [List.mem_append] at hk ⊢; first | exact hk | exact .inr hk);clear hT0;refine HK.out _ _ ?_ ?_
   ·exact ⟨hT.size, (hK c (by simp)).trans hS.2⟩
   clear HK K;try simp only [Act.put, SL]
   have hS' := And.intro hT.size ((hK c (by simp)).trans hS.2);clear hS;have hS := hS';clear hS';have TTn := Lib.hid (And.intro hT (TT.out.2.trans hK));clear TT hT hK;have TT := TTn;clear TTn;refine Hu 9 123 hS ?_;simp only [SL];refine Hu 10 133 hS ?_;simp only [SL];refine Hu 11 134 hS ?_;simp only [SL];refine Hu 12 16 hS ?_;simp only [SL];refine Hu 13 17 hS ?_;simp only [SL];refine wpAnyH_done (by kernel_rfl) ?_ _;have hS0 := hS.1;obtain ⟨wL, hwL⟩ : ∃ wL, wL = w6 := ⟨_, rfl⟩
   subst hwL;obtain ⟨B, hB⟩ : ∃ B, (scanE 0 E2).take (Int.toNat 1000) = B := ⟨_, rfl⟩
   rw [hB] at hrv5;have hle2 : (scanE 0 E2).length ≤ 40 := Nat.le_trans (scanE_len 0 E2) LN50.out.2;have HBB : B = scanE 0 E2 := by rw [← hB]; exact List.take_of_length_le (Nat.le_trans hle2 (by decide))
   have SC := Lib.hid (HKS.out.scanned HAA.out HBB);obtain ⟨vb0, cb0, hvb⟩ := hrv5.shape;subst hvb;have ROWB := Lib.hid hrv5;have ROWA := Lib.hid (HRV.out.kept fun k hk => TT.out.2 k (by simp [hk]));have BL := Lib.hid hS0;have TQ := Lib.hid TT.out.1;have CBL : Hid (wL.heap[b]? = some (.cells #[.pointer (some ⟨d, 0, none⟩), .pointer (some ⟨x', 0, none⟩), .pointer (some ⟨s, 0, none⟩), .pointer (some ⟨r', 0, none⟩), .int .i64 root] 39)) := Lib.hid ((TT.out.2 b (by simp)).trans CBA.out);have hAB : B.length = A.length := SC.out.1.symm
   have KT : Hid (∀ (m : Nat) (k : Int) (v : ByteArray), A[m]? = some (k, v) → k ≤ 18446744073709551615) := Lib.hid (fun m k v hm => by
    have hmem := List.mem_of_getElem? hm;rw [HAA.out] at hmem;obtain ⟨i, _, rfl⟩ := (HKS.out.k k).1 (mem_keysE.2 ⟨v, (List.mem_filter.1 hmem).1⟩);exact (lawK_ok _).2)
   rw [hAB];clear hS hS0 TT hB hrv5 HRV HI hAB HBB hle2;go_wp2_with fail
   go_loopw [18, 19, 20, 21] (fun i _ _ _ wr => ∃ m : Nat, i = .int .i64 (m : Int) ∧ m ≤ A.length ∧ Hid (Below wL.heap.size wL wr)) (fun i _ _ _ _ => A.length - (intOf i).toNat)
   case atStart => exact ⟨0, rfl, Nat.zero_le _, Lib.hid (Below.refl _ _)⟩
   case round =>
    obtain ⟨m, rfl, hmA, HBr⟩ := hrel
    by_cases hlt : m < A.length
    ·have hli : (m : Int) < (A.length : Int) := by omega
     obtain ⟨⟨ek, ev⟩, hen⟩ : ∃ en, A[m]? = some en := ⟨_, List.getElem?_eq_getElem hlt⟩
     obtain ⟨⟨q0, hgv, hgb⟩, ev2, hen2⟩ := SC.out.2 m ek ev hen;obtain ⟨g, hg0, hg1, hg2, hg3⟩ := (ROWA.out.below HBr.out).at hen;obtain ⟨h, hh0, hh1, hh2, hh3⟩ := (ROWB.out.below HBr.out).at hen2;subst hg0;subst hh0;have GLT := Lib.hid hg1;have HLT := Lib.hid hh1;have K1 := Lib.hid hg2;have K2 := Lib.hid hg3;have L1 := Lib.hid hh2;have HMA : Hid (m + 1 ≤ A.length) := Lib.hid (by omega);have hm50 : m ≤ 40 := by have := HA50.out; omega
     have GT : Hid (∀ w', Below wr.heap.size wr w' → Calls Tryz.prog 22 #[.pointer (some ⟨s, 0, none⟩), .int .i64 root, .int .u64 ek] w' fun e w'' => e = .returned (.tuple #[.string ev, .bool true, .int .i64 0]) ∧ Below w'.heap.size w' w'') := Lib.hid (fun w' hb => by
      have hq := get_Q ((TQ.out.below HBr.out).below hb) HE6.out ek ⟨q0, KT.out m ek ev hen⟩;rw [hgv, hgb] at hq;exact hq)
     have CBr : Hid (wr.heap[b]? = some (.cells #[.pointer (some ⟨d, 0, none⟩), .pointer (some ⟨x', 0, none⟩), .pointer (some ⟨s, 0, none⟩), .pointer (some ⟨r', 0, none⟩), .int .i64 root] 39)) := Lib.hid ((HBr.out.block b (TQ.out.lt b (by simp))).trans CBL.out);clear hg1 hg2 hg3 hh1 hh2 hh3 hen hen2 hgv hgb q0 hlt hmA;go_upto_region 25 with fail
     refine wp_region_held_drew (S := fun w' => Below wr.heap.size wr w' ∧ w'.heap[b]? = some (.cells #[.pointer (some ⟨d, 0, none⟩), .pointer (some ⟨x', 0, none⟩), .pointer (some ⟨s, 0, none⟩), .pointer (some ⟨r', 0, none⟩), .int .i64 root] 39)) (by kernel_rfl) ⟨(Below.refl _ _).drew, CBr.out⟩ (fun hS => ?_);refine Hu 0 147 hS ?_;simp only [SL];refine Hu 1 148 hS ?_;simp only [SL];refine Hu 2 149 hS ?_;simp only [SL];refine Hv 3 150 ?vg3x4 hS ?hg3x4 ?_
     case hg3x4 =>
      intro w9 s9;obtain ⟨q0, q1, q2, q3, q4, _⟩ := cells5 s9.2;clear s9;go_simp;try (with_reducible rfl)
     simp only [SL];refine Hu 4 151 hS ?_;simp only [SL];refine Hu 5 152 hS ?_;simp only [SL];refine Hu 6 153 hS ?_;simp only [SL];refine Hv 7 154 ?vg7x8 hS ?hg7x8 ?_
     case hg7x8 =>
      intro w9 s9;obtain ⟨q0, q1, q2, q3, q4, _⟩ := cells5 s9.2;clear s9;go_simp;try (with_reducible rfl)
     simp only [SL];refine Hu 8 155 hS ?_;simp only [SL];refine Hu 9 156 hS ?_;simp only [SL];refine Hu 10 157 hS ?_;simp only [SL];refine Hu 11 158 hS ?_;simp only [SL];refine Hv 12 159 ?vg12x13 hS ?hg12x13 ?_
     case hg12x13 =>
      intro w9 s9;have k9 := (cell_as (i := m * 2) (s9.1.block g GLT.out)).trans K1.out;clear s9;go_simp;try (with_reducible rfl)
     simp only [SL];refine Hs 13 (fun K HK => ?_);go_simp;go_wp2_with fail;refine (GT.out _ hS.1).mono ?_;rintro e w6 ⟨rfl, b6⟩;refine HK.out _ _ ?_ ?_
     ·exact ⟨chain hS.1 b6, (b6.block _ (Array.getElem?_eq_some_iff.1 hS.2).1).trans hS.2⟩
     clear HK K;try simp only [Act.put, SL]
     have hS' := And.intro (chain hS.1 b6) ((b6.block _ (Array.getElem?_eq_some_iff.1 hS.2).1).trans hS.2);clear hS;have hS := hS';clear hS' b6;refine Hu 14 146 hS ?_;simp only [SL];refine Hu 15 161 hS ?_;simp only [SL];refine Hu 16 162 hS ?_;simp only [SL];refine Hu 17 163 hS ?_;simp only [SL];refine Hu 18 19 hS ?_;simp only [SL];refine Hu 19 20 hS ?_;simp only [SL];refine Hu 20 21 hS ?_;simp only [SL];refine wpAnyH_done (by kernel_rfl) ?_ _;have k61 := (cell_as (i := m * 2) (hS.1.block g GLT.out)).trans K1.out;have k62 := (cell_as (i := m * 2 + 1) (hS.1.block g GLT.out)).trans K2.out
     have l61 := (cell_as (i := m * 2) (hS.1.block h HLT.out)).trans L1.out;have e4 : IntKind.i64.wrap ((m : Int) + 1) = ((m + 1 : Nat) : Int) := by rw [show (m : Int) + 1 = ((m + 1 : Nat) : Int) by omega]; exact IntWalk.i64_in _ (by omega)
     have HS6 := Lib.hid (chain HBr.out hS.1);clear hS;go_wp2_with fail
     go_quiet (fail)
     have HQ : Hid (Below wL.heap.size wL (w6.drewN nq)) := Lib.hid ⟨HS6.out.os, HS6.out.tape, HS6.out.output, HS6.out.size, HS6.out.block⟩;clear k61 k62 l61;go_wp2_with fail;go_roundw
     case rel => exact ⟨m + 1, rfl, HMA.out, HQ⟩
     case measure => have := HMA.out; simp [intOf]; omega
    ·have hli : ¬ (m : Int) < (A.length : Int) := by omega
     have BF := Lib.hid (chain BL.out HBr.out);clear hlt;go_wp2_with fail;go_ret;exact ⟨rfl, chain B1.out BF.out⟩
end Go.Proofs.YtmomlhiokggfbaaGreatDoor
