/-
 NodeP, NodeQ.
-/
import Derived.Test.YtmomlhiokggfbaaGreatDoorG01
import Derived.IntWalk
namespace Go.Proofs.YtmomlhiokggfbaaGreatDoor
open Go.RowKit
set_option linter.unusedVariables false
set_option linter.unusedSimpArgs false
set_option maxRecDepth 20000
set_option maxHeartbeats 12800000
def nodSP (lo : Nat) (LK LV : List Value) : SP := ⟨fun v w => ∃ xa xb xc xd, v = .agg #[.bool true, .slice xa LK.length xc, .slice xb LV.length xd, .slice none 0 0] ∧ Rd w xa LK ∧ Rd w xb LV ∧ LK.length ≤ xc ∧ xc ≤ maxLen ∧ LV.length ≤ xd ∧ xd ≤ maxLen ∧ (∀ x, xa = some x → lo ≤ x.block) ∧ ∀ x, xb = some x → lo ≤ x.block,
 fun _ _ _ ⟨xa, xb, xc, xd, h, q1, q2, q⟩ hb => ⟨xa, xb, xc, xd, h, q1.below hb, q2.below hb, q⟩⟩
def NodOut (lo : Nat) (LK LV : List Value) (e : Ending) (w' : World) : Prop := ∃ v, e = .returned v ∧ (nodSP lo LK LV).p v w'
theorem nput_no (ak av ac a1 a2 a3 a4 : Option Addr) (ck cv cc lk lc p : Nat) (key : Int) (v : ByteArray) (LK LV : List Value) (w : World)
  (WH : Hid (∀ w, Calls Tryz.prog 83 #[.agg #[.bool true, .slice ak lk ck, .slice av lk cv, .slice ac lc cc]] w fun e w' => e = .returned (.bool true) ∧ Below w.heap.size w w'))
  (FI : Hid (∀ w1, Below w.heap.size w w1 → Calls Tryz.prog 81 #[.agg #[.bool true, .slice ak lk ck, .slice av lk cv, .slice ac lc cc], .int .u64 key] w1 fun e w' => e = .returned (.tuple #[.int .i64 (p : Int), .bool false]) ∧ Below w1.heap.size w1 w'))
  (S1 : Hid (sliced ak 0 p ck 1 = .slice a1 p ck)) (S2 : Hid (sliced ak p lk ck 1 = .slice a2 (lk - p) (ck - p))) (S3 : Hid (sliced av 0 p cv 1 = .slice a3 p cv)) (S4 : Hid (sliced av p lk cv 1 = .slice a4 (lk - p) (cv - p)))
  (CK : Hid (∀ wx a m, Below w.heap.size w wx → Rd wx a [.slice a1 p ck, .slice m 1 1, .slice a2 (lk - p) (ck - p)] → Rd wx m [ukey key] → Calls Tryz.prog 84 #[.slice a 3 3] wx fun e w' => RowOut wx.heap.size 28 LK e w' ∧ Below wx.heap.size wx w'))
  (CV : Hid (∀ wx a m, Below w.heap.size w wx → Rd wx a [.slice a3 p cv, .slice m 1 1, .slice a4 (lk - p) (cv - p)] → Rd wx m [.string v] → Calls Tryz.prog 85 #[.slice a 3 3] wx fun e w' => RowOut wx.heap.size 9 LV e w' ∧ Below wx.heap.size wx w'))
  (h1 : p ≤ lk) (h2 : p ≤ lk) (h4 : lk ≤ ck) (h5 : lk ≤ cv) (h6 : lk ≤ 1000) :
  Calls Tryz.prog 77 #[.agg #[.bool true, .slice ak lk ck, .slice av lk cv, .slice ac lc cc], .int .u64 key, .string v] w fun e w' => NodOut w.heap.size LK LV e w' ∧ Below w.heap.size w w' := by
 have i1 : (p : Int) ≤ (ck : Int) := by omega
 have i2 : (p : Int) ≤ (lk : Int) := by omega
 have i3 : (p : Int) ≤ (cv : Int) := by omega
 have i4 : (p : Int) ≤ (lk : Int) := by omega
 have i5 : (p : Int) ≤ 1000 := by omega
 go_enter Tryz.func77, Tryz.ntmps77;go_wp2_with fail;refine (WH.out _).mono ?_;rintro e w1 ⟨rfl, b1⟩;have X1 := kept (heap_alloc_new (w.alloc _) _) b1;have Y1 := kept (show ((w.alloc (.cells #[.bool true, .slice ak lk ck, .slice av lk cv, .slice ac lc cc] 97)).alloc (.cells #[.bool false, .slice none 0 0, .slice none 0 0, .slice none 0 0] 97)).heap[w.heap.size]? = some (.cells #[.bool true, .slice ak lk ck, .slice av lk cv, .slice ac lc cc] 97) from (heap_alloc_old _ _ (by simp)).trans (heap_alloc_new w _)) b1
 have B1 : Below w.heap.size w w1 := (((Below.refl _ _).alloc (Nat.le_refl _) _).alloc (by simp) _).trans (b1.mono (by simp; omega));have k0 := cl Y1 0 rfl;have k1 := cl Y1 1 rfl;have k2 := cl Y1 2 rfl;have k3 := cl Y1 3 rfl;have XH := Lib.hid X1;have YH := Lib.hid Y1;have BH := Lib.hid B1;clear b1 X1 Y1 B1;go_wp2_with fail;refine (FI.out _ BH.out).mono ?_;rintro e w2 ⟨rfl, b2⟩;have X2 := kept XH.out b2;have Y2 := kept YH.out b2;have B2 := Lib.hid (chain BH.out b2);clear XH YH BH k0 k1 k2 k3 b2;have lt0 : w.heap.size < w2.heap.size := (Array.getElem?_eq_some_iff.1 Y2).1;have c1 := cl Y2 1 rfl
 have c2 := cl Y2 2 rfl;have X := Lib.hid X2;have Y := Lib.hid Y2;clear X2 Y2 FI WH;go_wp2_with fail
 refine region_kit 25 54 [eqV (.pointer (some ⟨w.heap.size, 1, none⟩)), eqV (.slice ak lk ck), eqV (.int .i64 (p : Int)), eqV (.slice a1 p ck), eqV (.int .u64 key), lstV [ukey key], eqV (.pointer (some ⟨w.heap.size, 1, none⟩)), eqV (.slice ak lk ck), eqV (.int .i64 ((p : Int))), eqV (.slice a2 (lk - p) (ck - p)), lst3V (.slice a1 p ck) (.slice a2 (lk - p) (ck - p)) [ukey key], rdFV w2.heap.size (LK), eqV (.pointer (some ⟨w.heap.size, 2, none⟩)), eqV (.slice av lk cv), eqV (.int .i64 (p : Int)), eqV (.slice a3 p cv), eqV (.string v), lstV [.string v], eqV (.pointer (some ⟨w.heap.size, 2, none⟩)), eqV (.slice av lk cv), eqV (.int .i64 ((p : Int))), eqV (.slice a4 (lk - p) (cv - p)), lst3V (.slice a3 p cv) (.slice a4 (lk - p) (cv - p)) [.string v], rdFV w2.heap.size (LV), nodSP w2.heap.size LK LV, anyV] (by kernel_rfl) (by kernel_rfl) (by rfl) ?owes ?ends
 case owes =>
  refine Fo 0 (fun a wx hS xo xd K HK => ?_) ?_
  ·have d3 := Fl xo 3
   clear xo xd;go_simp;exact HK.out _ _ rfl (Below.refl _ _)
  refine Fo 1 (fun a wx hS xo xd K HK => ?_) ?_
  ·have d29 := Fq xd 0
   clear xo xd;have c0 : wx.cell? ⟨w.heap.size, 1, none⟩ = some (.slice ak lk ck) := (hS.cell (p := ⟨w.heap.size, 1, none⟩) lt0).trans c1;go_simp;exact HK.out _ _ rfl (Below.refl _ _)
  refine Fo 2 (fun a wx hS xo xd K HK => ?_) ?_
  ·have d7 := Fl xo 7
   clear xo xd;go_simp;exact HK.out _ _ rfl (Below.refl _ _)
  refine Fo 3 (fun a wx hS xo xd K HK => ?_) ?_
  ·have d30 := Fq xd 1
   have d31 := Fq xd 2;clear xo xd;go_simp;refine HK.out _ _ ?_ (Below.refl _ _)
   show _ = _
   rw [← S1.out];simp [sliced, add0, Addr.add]
  refine Fo 4 (fun a wx hS xo xd K HK => ?_) ?_
  ·have d1 := Fl xo 1
   clear xo xd;go_simp;exact HK.out _ _ rfl (Below.refl _ _)
  refine Fo 5 (fun a wx hS xo xd K HK => ?_) ?_
  ·have d33 := Fq xd 4
   clear xo xd;go_simp;exact HK.out _ _ ⟨_, rfl, Rd.made _ _ _⟩ (below_made _ _)
  refine Fo 6 (fun a wx hS xo xd K HK => ?_) ?_
  ·have d3 := Fl xo 3
   clear xo xd;go_simp;exact HK.out _ _ rfl (Below.refl _ _)
  refine Fo 7 (fun a wx hS xo xd K HK => ?_) ?_
  ·have d35 := Fq xd 6
   clear xo xd;have c0 : wx.cell? ⟨w.heap.size, 1, none⟩ = some (.slice ak lk ck) := (hS.cell (p := ⟨w.heap.size, 1, none⟩) lt0).trans c1;go_simp;exact HK.out _ _ rfl (Below.refl _ _)
  refine Fo 8 (fun a wx hS xo xd K HK => ?_) ?_
  ·have d9 := Fl xo 9
   clear xo xd;go_simp;exact HK.out _ _ rfl (Below.refl _ _)
  refine Fo 9 (fun a wx hS xo xd K HK => ?_) ?_
  ·have d36 := Fq xd 7
   have d37 := Fq xd 8;clear xo xd;go_simp;refine HK.out _ _ ?_ (Below.refl _ _)
   show _ = _
   rw [← S2.out];simp [sliced, add0, Addr.add]
  refine Fo 10 (fun a wx hS xo xd K HK => ?_) ?_
  ·have d32 := Fq xd 3
   obtain ⟨a34, d34, r34⟩ : ∃ a', a.tmps[34]?.getD undef = .slice a' 1 1 ∧ Rd wx a' [ukey key] := Fr xd 5;have d38 := Fq xd 9;clear xo xd;go_simp;exact HK.out _ _ ⟨_, a34, rfl, Rd.made _ _ _, r34.below (below_made _ _)⟩ (below_made _ _)
  refine Fo 11 (fun a wx hS xo xd K HK => ?_) ?_
  ·obtain ⟨a39, m39, d39, r39, s39⟩ : ∃ a' a5, a.tmps[39]?.getD undef = .slice a' 3 3 ∧ Rd wx a' [.slice a1 p ck, .slice a5 1 1, .slice a2 (lk - p) (ck - p)] ∧ Rd wx a5 [ukey key] := Fr xd 10
   clear xo xd;have CA := CK.out wx a39 m39 (chain B2.out hS) r39 s39;clear r39 s39;go_simp;go_wp2_with fail;refine CA.mono ?_;rintro e w9 ⟨⟨v9, rfl, h9⟩, b9⟩;exact HK.out _ _ (out_rdFV h9 hS.size) b9
  refine Fo 12 (fun a wx hS xo xd K HK => ?_) ?_
  ·have d3 := Fl xo 3
   clear xo xd;go_simp;exact HK.out _ _ rfl (Below.refl _ _)
  refine Fo 13 (fun a wx hS xo xd K HK => ?_) ?_
  ·have d41 := Fq xd 12
   clear xo xd;have c0 : wx.cell? ⟨w.heap.size, 2, none⟩ = some (.slice av lk cv) := (hS.cell (p := ⟨w.heap.size, 2, none⟩) lt0).trans c2;go_simp;exact HK.out _ _ rfl (Below.refl _ _)
  refine Fo 14 (fun a wx hS xo xd K HK => ?_) ?_
  ·have d7 := Fl xo 7
   clear xo xd;go_simp;exact HK.out _ _ rfl (Below.refl _ _)
  refine Fo 15 (fun a wx hS xo xd K HK => ?_) ?_
  ·have d42 := Fq xd 13
   have d43 := Fq xd 14;clear xo xd;go_simp;refine HK.out _ _ ?_ (Below.refl _ _)
   show _ = _
   rw [← S3.out];simp [sliced, add0, Addr.add]
  refine Fo 16 (fun a wx hS xo xd K HK => ?_) ?_
  ·have d2 := Fl xo 2
   clear xo xd;go_simp;exact HK.out _ _ rfl (Below.refl _ _)
  refine Fo 17 (fun a wx hS xo xd K HK => ?_) ?_
  ·have d45 := Fq xd 16
   clear xo xd;go_simp;exact HK.out _ _ ⟨_, rfl, Rd.made _ _ _⟩ (below_made _ _)
  refine Fo 18 (fun a wx hS xo xd K HK => ?_) ?_
  ·have d3 := Fl xo 3
   clear xo xd;go_simp;exact HK.out _ _ rfl (Below.refl _ _)
  refine Fo 19 (fun a wx hS xo xd K HK => ?_) ?_
  ·have d47 := Fq xd 18
   clear xo xd;have c0 : wx.cell? ⟨w.heap.size, 2, none⟩ = some (.slice av lk cv) := (hS.cell (p := ⟨w.heap.size, 2, none⟩) lt0).trans c2;go_simp;exact HK.out _ _ rfl (Below.refl _ _)
  refine Fo 20 (fun a wx hS xo xd K HK => ?_) ?_
  ·have d9 := Fl xo 9
   clear xo xd;go_simp;exact HK.out _ _ rfl (Below.refl _ _)
  refine Fo 21 (fun a wx hS xo xd K HK => ?_) ?_
  ·have d48 := Fq xd 19
   have d49 := Fq xd 20;clear xo xd;go_simp;refine HK.out _ _ ?_ (Below.refl _ _)
   show _ = _
   rw [← S4.out];simp [sliced, add0, Addr.add]
  refine Fo 22 (fun a wx hS xo xd K HK => ?_) ?_
  ·have d44 := Fq xd 15
   obtain ⟨a46, d46, r46⟩ : ∃ a', a.tmps[46]?.getD undef = .slice a' 1 1 ∧ Rd wx a' [.string v] := Fr xd 17;have d50 := Fq xd 21;clear xo xd;go_simp;exact HK.out _ _ ⟨_, a46, rfl, Rd.made _ _ _, r46.below (below_made _ _)⟩ (below_made _ _)
  refine Fo 23 (fun a wx hS xo xd K HK => ?_) ?_
  ·obtain ⟨a51, m51, d51, r51, s51⟩ : ∃ a' a5, a.tmps[51]?.getD undef = .slice a' 3 3 ∧ Rd wx a' [.slice a3 p cv, .slice a5 1 1, .slice a4 (lk - p) (cv - p)] ∧ Rd wx a5 [.string v] := Fr xd 22
   clear xo xd;have CA := CV.out wx a51 m51 (chain B2.out hS) r51 s51;clear r51 s51;go_simp;go_wp2_with fail;refine CA.mono ?_;rintro e w9 ⟨⟨v9, rfl, h9⟩, b9⟩;exact HK.out _ _ (out_rdFV h9 hS.size) b9
  refine Fo 24 (fun a wx hS xo xd K HK => ?_) ?_
  ·obtain ⟨a40, c40, d40, r40, l40, m40, n40⟩ : ∃ a' c', a.tmps[40]?.getD undef = .slice a' (LK).length c' ∧ Rd wx a' (LK) ∧ (LK).length ≤ c' ∧ c' ≤ maxLen ∧ ∀ x, a' = some x → w2.heap.size ≤ x.block := Fr xd 11
   obtain ⟨a52, c52, d52, r52, l52, m52, n52⟩ : ∃ a' c', a.tmps[52]?.getD undef = .slice a' (LV).length c' ∧ Rd wx a' (LV) ∧ (LV).length ≤ c' ∧ c' ≤ maxLen ∧ ∀ x, a' = some x → w2.heap.size ≤ x.block := Fr xd 23;clear xo xd;go_simp;exact HK.out _ _ ⟨_, _, _, _, rfl, r40, r52, l40, m40, l52, m52, n40, n52⟩ (Below.refl _ _)
  refine OwesAll.skip (f := 25) ?_;exact OwesAll.nil
 case ends =>
  intro a wx hS hsz hdf hold hdone;simp only [List.getElem?_toArray, List.getElem?_cons_succ, List.getElem?_cons_zero];intro K hK;have HK := Lib.hid hK;clear hK;obtain ⟨xa, xb, xc, xd, d53, q1, q2, q3, q4, q5, q6, q7, q8⟩ : ∃ xa xb xc xd, a.tmps.getD 53 undef = .agg #[.bool true, .slice xa LK.length xc, .slice xb LV.length xd, .slice none 0 0] ∧ Rd wx xa LK ∧ Rd wx xb LV ∧ LK.length ≤ xc ∧ xc ≤ maxLen ∧ LV.length ≤ xd ∧ xd ≤ maxLen ∧ (∀ x, xa = some x → w2.heap.size ≤ x.block) ∧ ∀ x, xb = some x → w2.heap.size ≤ x.block := hdone 24 _ 53 rfl (by decide) rfl
  have d6 : a.tmps.getD 6 undef = .pointer (some ⟨w.heap.size + 1, 0, none⟩) := hold 6 (unset_of (by kernel_rfl));have hdf' : a.defers = [] := hdf;clear hold hdone hsz hdf;rw [Array.getD_eq_getD_getElem?] at d53 d6;have XB := kept X.out hS;rw [show (w.alloc (.cells #[.bool true, .slice ak lk ck, .slice av lk cv, .slice ac lc cc] 97)).heap.size = w.heap.size + 1 from by simp] at XB;have y0 := cl XB 0 rfl;have y1 := cl XB 1 rfl;have y2 := cl XB 2 rfl;have y3 := cl XB 3 rfl;have f0 := Go.Joins.unfrozen_of_block XB 0;have f1 := Go.Joins.unfrozen_of_block XB 1
  have f2 := Go.Joins.unfrozen_of_block XB 2;have f3 := Go.Joins.unfrozen_of_block XB 3;rw [if_pos (by rfl)];go_simp;refine HK.out _ _ ?_
  have B9 : Below w.heap.size w ((((wx.setCell ⟨w.heap.size + 1, 0, none⟩ (.bool true)).setCell ⟨w.heap.size + 1, 1, none⟩ (.slice xa LK.length xc)).setCell ⟨w.heap.size + 1, 2, none⟩ (.slice xb LV.length xd)).setCell ⟨w.heap.size + 1, 3, none⟩ (.slice none 0 0)) :=
   ((((chain B2.out hS).setCell (by simp) _).setCell (by simp) _).setCell (by simp) _).setCell (by simp) _
  clear y0 y1 y2 y3 f0 f1 f2 f3 HK K;go_wp2_with fail;have lt1 : w.heap.size + 1 < w2.heap.size := by have := (Array.getElem?_eq_some_iff.1 X.out).1; simpa using this
  have FIN : Hid (NodOut w.heap.size LK LV (.returned (.agg #[.bool true, .slice xa LK.length xc, .slice xb LV.length xd, .slice none 0 0])) ((((wx.setCell ⟨w.heap.size + 1, 0, none⟩ (.bool true)).setCell ⟨w.heap.size + 1, 1, none⟩ (.slice xa LK.length xc)).setCell ⟨w.heap.size + 1, 2, none⟩ (.slice xb LV.length xd)).setCell ⟨w.heap.size + 1, 3, none⟩ (.slice none 0 0))) :=
   Lib.hid ⟨_, rfl, xa, xb, xc, xd, rfl, q1.set4 _ _ _ _ _ (fun x hx => Nat.lt_of_lt_of_le lt1 (q7 x hx)), q2.set4 _ _ _ _ _ (fun x hx => Nat.lt_of_lt_of_le lt1 (q8 x hx)), q3, q4, q5, q6, fun x hx => Nat.le_trans (Nat.le_of_lt lt0) (q7 x hx), fun x hx => Nat.le_trans (Nat.le_of_lt lt0) (q8 x hx)⟩
  have XR : (((((wx.setCell ⟨w.heap.size + 1, 0, none⟩ (.bool true)).setCell ⟨w.heap.size + 1, 1, none⟩ (.slice xa LK.length xc)).setCell ⟨w.heap.size + 1, 2, none⟩ (.slice xb LV.length xd)).setCell ⟨w.heap.size + 1, 3, none⟩ (.slice none 0 0))).heap[w.heap.size + 1]? = some (.cells #[.bool true, .slice xa LK.length xc, .slice xb LV.length xd, .slice none 0 0] 97) := by
   rw [heap_setCell_same _ _ 3 _ _ _ (heap_setCell_same _ _ 2 _ _ _ (heap_setCell_same _ _ 1 _ _ _ (heap_setCell_same _ _ 0 _ _ _ XB)))]
   rfl
  generalize ((((wx.setCell ⟨w.heap.size + 1, 0, none⟩ (.bool true)).setCell ⟨w.heap.size + 1, 1, none⟩ (.slice xa LK.length xc)).setCell ⟨w.heap.size + 1, 2, none⟩ (.slice xb LV.length xd)).setCell ⟨w.heap.size + 1, 3, none⟩ (.slice none 0 0)) = wz at *;have z0 := cl XR 0 rfl;have z1 := cl XR 1 rfl;have z2 := cl XR 2 rfl;have z3 := cl XR 3 rfl;exact bodyPost_ret (v := .agg #[.bool true, .slice xa LK.length xc, .slice xb LV.length xd, .slice none 0 0]) (by simp [results, Tryz.results77, go_sem, d6, z0, z1, z2, z3]) hdf' ⟨FIN.out, B9⟩
theorem nput_yes (ak av ac a1 a2 a3 a4 : Option Addr) (ck cv cc lk lc p : Nat) (key : Int) (v : ByteArray) (LK LV : List Value) (w : World)
  (WH : Hid (∀ w, Calls Tryz.prog 83 #[.agg #[.bool true, .slice ak lk ck, .slice av lk cv, .slice ac lc cc]] w fun e w' => e = .returned (.bool true) ∧ Below w.heap.size w w'))
  (FI : Hid (∀ w1, Below w.heap.size w w1 → Calls Tryz.prog 81 #[.agg #[.bool true, .slice ak lk ck, .slice av lk cv, .slice ac lc cc], .int .u64 key] w1 fun e w' => e = .returned (.tuple #[.int .i64 (p : Int), .bool true]) ∧ Below w1.heap.size w1 w'))
  (S1 : Hid (sliced ak 0 p ck 1 = .slice a1 p ck)) (S2 : Hid (sliced ak (p + 1) lk ck 1 = .slice a2 (lk - (p + 1)) (ck - (p + 1)))) (S3 : Hid (sliced av 0 p cv 1 = .slice a3 p cv)) (S4 : Hid (sliced av (p + 1) lk cv 1 = .slice a4 (lk - (p + 1)) (cv - (p + 1))))
  (CK : Hid (∀ wx a m, Below w.heap.size w wx → Rd wx a [.slice a1 p ck, .slice m 1 1, .slice a2 (lk - (p + 1)) (ck - (p + 1))] → Rd wx m [ukey key] → Calls Tryz.prog 84 #[.slice a 3 3] wx fun e w' => RowOut wx.heap.size 28 LK e w' ∧ Below wx.heap.size wx w'))
  (CV : Hid (∀ wx a m, Below w.heap.size w wx → Rd wx a [.slice a3 p cv, .slice m 1 1, .slice a4 (lk - (p + 1)) (cv - (p + 1))] → Rd wx m [.string v] → Calls Tryz.prog 85 #[.slice a 3 3] wx fun e w' => RowOut wx.heap.size 9 LV e w' ∧ Below wx.heap.size wx w'))
  (h1 : p ≤ lk) (h2 : (p + 1) ≤ lk) (h4 : lk ≤ ck) (h5 : lk ≤ cv) (h6 : lk ≤ 1000) :
  Calls Tryz.prog 77 #[.agg #[.bool true, .slice ak lk ck, .slice av lk cv, .slice ac lc cc], .int .u64 key, .string v] w fun e w' => NodOut w.heap.size LK LV e w' ∧ Below w.heap.size w w' := by
 have i1 : (p : Int) ≤ (ck : Int) := by omega
 have i2 : (p : Int) + 1 ≤ (lk : Int) := by omega
 have i3 : (p : Int) ≤ (cv : Int) := by omega
 have i4 : (p : Int) + 1 ≤ (lk : Int) := by omega
 have i5 : (p : Int) ≤ 1000 := by omega
 go_enter Tryz.func77, Tryz.ntmps77;go_wp2_with fail;refine (WH.out _).mono ?_;rintro e w1 ⟨rfl, b1⟩;have X1 := kept (heap_alloc_new (w.alloc _) _) b1;have Y1 := kept (show ((w.alloc (.cells #[.bool true, .slice ak lk ck, .slice av lk cv, .slice ac lc cc] 97)).alloc (.cells #[.bool false, .slice none 0 0, .slice none 0 0, .slice none 0 0] 97)).heap[w.heap.size]? = some (.cells #[.bool true, .slice ak lk ck, .slice av lk cv, .slice ac lc cc] 97) from (heap_alloc_old _ _ (by simp)).trans (heap_alloc_new w _)) b1
 have B1 : Below w.heap.size w w1 := (((Below.refl _ _).alloc (Nat.le_refl _) _).alloc (by simp) _).trans (b1.mono (by simp; omega));have k0 := cl Y1 0 rfl;have k1 := cl Y1 1 rfl;have k2 := cl Y1 2 rfl;have k3 := cl Y1 3 rfl;have XH := Lib.hid X1;have YH := Lib.hid Y1;have BH := Lib.hid B1;clear b1 X1 Y1 B1;go_wp2_with fail;refine (FI.out _ BH.out).mono ?_;rintro e w2 ⟨rfl, b2⟩;have X2 := kept XH.out b2;have Y2 := kept YH.out b2;have B2 := Lib.hid (chain BH.out b2);clear XH YH BH k0 k1 k2 k3 b2;have lt0 : w.heap.size < w2.heap.size := (Array.getElem?_eq_some_iff.1 Y2).1;have c1 := cl Y2 1 rfl
 have c2 := cl Y2 2 rfl;have X := Lib.hid X2;have Y := Lib.hid Y2;clear X2 Y2 FI WH;go_wp2_with fail
 refine region_kit 25 54 [eqV (.pointer (some ⟨w.heap.size, 1, none⟩)), eqV (.slice ak lk ck), eqV (.int .i64 (p : Int)), eqV (.slice a1 p ck), eqV (.int .u64 key), lstV [ukey key], eqV (.pointer (some ⟨w.heap.size, 1, none⟩)), eqV (.slice ak lk ck), eqV (.int .i64 ((p : Int) + 1)), eqV (.slice a2 (lk - (p + 1)) (ck - (p + 1))), lst3V (.slice a1 p ck) (.slice a2 (lk - (p + 1)) (ck - (p + 1))) [ukey key], rdFV w2.heap.size (LK), eqV (.pointer (some ⟨w.heap.size, 2, none⟩)), eqV (.slice av lk cv), eqV (.int .i64 (p : Int)), eqV (.slice a3 p cv), eqV (.string v), lstV [.string v], eqV (.pointer (some ⟨w.heap.size, 2, none⟩)), eqV (.slice av lk cv), eqV (.int .i64 ((p : Int) + 1)), eqV (.slice a4 (lk - (p + 1)) (cv - (p + 1))), lst3V (.slice a3 p cv) (.slice a4 (lk - (p + 1)) (cv - (p + 1))) [.string v], rdFV w2.heap.size (LV), nodSP w2.heap.size LK LV, anyV] (by kernel_rfl) (by kernel_rfl) (by rfl) ?owes ?ends
 case owes =>
  refine Fo 0 (fun a wx hS xo xd K HK => ?_) ?_
  ·have d3 := Fl xo 3
   clear xo xd;go_simp;exact HK.out _ _ rfl (Below.refl _ _)
  refine Fo 1 (fun a wx hS xo xd K HK => ?_) ?_
  ·have d29 := Fq xd 0
   clear xo xd;have c0 : wx.cell? ⟨w.heap.size, 1, none⟩ = some (.slice ak lk ck) := (hS.cell (p := ⟨w.heap.size, 1, none⟩) lt0).trans c1;go_simp;exact HK.out _ _ rfl (Below.refl _ _)
  refine Fo 2 (fun a wx hS xo xd K HK => ?_) ?_
  ·have d7 := Fl xo 7
   clear xo xd;go_simp;exact HK.out _ _ rfl (Below.refl _ _)
  refine Fo 3 (fun a wx hS xo xd K HK => ?_) ?_
  ·have d30 := Fq xd 1
   have d31 := Fq xd 2;clear xo xd;go_simp;refine HK.out _ _ ?_ (Below.refl _ _)
   show _ = _
   rw [← S1.out];simp [sliced, add0, Addr.add]
  refine Fo 4 (fun a wx hS xo xd K HK => ?_) ?_
  ·have d1 := Fl xo 1
   clear xo xd;go_simp;exact HK.out _ _ rfl (Below.refl _ _)
  refine Fo 5 (fun a wx hS xo xd K HK => ?_) ?_
  ·have d33 := Fq xd 4
   clear xo xd;go_simp;exact HK.out _ _ ⟨_, rfl, Rd.made _ _ _⟩ (below_made _ _)
  refine Fo 6 (fun a wx hS xo xd K HK => ?_) ?_
  ·have d3 := Fl xo 3
   clear xo xd;go_simp;exact HK.out _ _ rfl (Below.refl _ _)
  refine Fo 7 (fun a wx hS xo xd K HK => ?_) ?_
  ·have d35 := Fq xd 6
   clear xo xd;have c0 : wx.cell? ⟨w.heap.size, 1, none⟩ = some (.slice ak lk ck) := (hS.cell (p := ⟨w.heap.size, 1, none⟩) lt0).trans c1;go_simp;exact HK.out _ _ rfl (Below.refl _ _)
  refine Fo 8 (fun a wx hS xo xd K HK => ?_) ?_
  ·have d9 := Fl xo 9
   clear xo xd;go_simp;exact HK.out _ _ rfl (Below.refl _ _)
  refine Fo 9 (fun a wx hS xo xd K HK => ?_) ?_
  ·have d36 := Fq xd 7
   have d37 := Fq xd 8;clear xo xd;go_simp;refine HK.out _ _ ?_ (Below.refl _ _)
   show _ = _
   rw [← S2.out];simp [sliced, add0, Addr.add]
  refine Fo 10 (fun a wx hS xo xd K HK => ?_) ?_
  ·have d32 := Fq xd 3
   obtain ⟨a34, d34, r34⟩ : ∃ a', a.tmps[34]?.getD undef = .slice a' 1 1 ∧ Rd wx a' [ukey key] := Fr xd 5;have d38 := Fq xd 9;clear xo xd;go_simp;exact HK.out _ _ ⟨_, a34, rfl, Rd.made _ _ _, r34.below (below_made _ _)⟩ (below_made _ _)
  refine Fo 11 (fun a wx hS xo xd K HK => ?_) ?_
  ·obtain ⟨a39, m39, d39, r39, s39⟩ : ∃ a' a5, a.tmps[39]?.getD undef = .slice a' 3 3 ∧ Rd wx a' [.slice a1 p ck, .slice a5 1 1, .slice a2 (lk - (p + 1)) (ck - (p + 1))] ∧ Rd wx a5 [ukey key] := Fr xd 10
   clear xo xd;have CA := CK.out wx a39 m39 (chain B2.out hS) r39 s39;clear r39 s39;go_simp;go_wp2_with fail;refine CA.mono ?_;rintro e w9 ⟨⟨v9, rfl, h9⟩, b9⟩;exact HK.out _ _ (out_rdFV h9 hS.size) b9
  refine Fo 12 (fun a wx hS xo xd K HK => ?_) ?_
  ·have d3 := Fl xo 3
   clear xo xd;go_simp;exact HK.out _ _ rfl (Below.refl _ _)
  refine Fo 13 (fun a wx hS xo xd K HK => ?_) ?_
  ·have d41 := Fq xd 12
   clear xo xd;have c0 : wx.cell? ⟨w.heap.size, 2, none⟩ = some (.slice av lk cv) := (hS.cell (p := ⟨w.heap.size, 2, none⟩) lt0).trans c2;go_simp;exact HK.out _ _ rfl (Below.refl _ _)
  refine Fo 14 (fun a wx hS xo xd K HK => ?_) ?_
  ·have d7 := Fl xo 7
   clear xo xd;go_simp;exact HK.out _ _ rfl (Below.refl _ _)
  refine Fo 15 (fun a wx hS xo xd K HK => ?_) ?_
  ·have d42 := Fq xd 13
   have d43 := Fq xd 14;clear xo xd;go_simp;refine HK.out _ _ ?_ (Below.refl _ _)
   show _ = _
   rw [← S3.out];simp [sliced, add0, Addr.add]
  refine Fo 16 (fun a wx hS xo xd K HK => ?_) ?_
  ·have d2 := Fl xo 2
   clear xo xd;go_simp;exact HK.out _ _ rfl (Below.refl _ _)
  refine Fo 17 (fun a wx hS xo xd K HK => ?_) ?_
  ·have d45 := Fq xd 16
   clear xo xd;go_simp;exact HK.out _ _ ⟨_, rfl, Rd.made _ _ _⟩ (below_made _ _)
  refine Fo 18 (fun a wx hS xo xd K HK => ?_) ?_
  ·have d3 := Fl xo 3
   clear xo xd;go_simp;exact HK.out _ _ rfl (Below.refl _ _)
  refine Fo 19 (fun a wx hS xo xd K HK => ?_) ?_
  ·have d47 := Fq xd 18
   clear xo xd;have c0 : wx.cell? ⟨w.heap.size, 2, none⟩ = some (.slice av lk cv) := (hS.cell (p := ⟨w.heap.size, 2, none⟩) lt0).trans c2;go_simp;exact HK.out _ _ rfl (Below.refl _ _)
  refine Fo 20 (fun a wx hS xo xd K HK => ?_) ?_
  ·have d9 := Fl xo 9
   clear xo xd;go_simp;exact HK.out _ _ rfl (Below.refl _ _)
  refine Fo 21 (fun a wx hS xo xd K HK => ?_) ?_
  ·have d48 := Fq xd 19
   have d49 := Fq xd 20;clear xo xd;go_simp;refine HK.out _ _ ?_ (Below.refl _ _)
   show _ = _
   rw [← S4.out];simp [sliced, add0, Addr.add]
  refine Fo 22 (fun a wx hS xo xd K HK => ?_) ?_
  ·have d44 := Fq xd 15
   obtain ⟨a46, d46, r46⟩ : ∃ a', a.tmps[46]?.getD undef = .slice a' 1 1 ∧ Rd wx a' [.string v] := Fr xd 17;have d50 := Fq xd 21;clear xo xd;go_simp;exact HK.out _ _ ⟨_, a46, rfl, Rd.made _ _ _, r46.below (below_made _ _)⟩ (below_made _ _)
  refine Fo 23 (fun a wx hS xo xd K HK => ?_) ?_
  ·obtain ⟨a51, m51, d51, r51, s51⟩ : ∃ a' a5, a.tmps[51]?.getD undef = .slice a' 3 3 ∧ Rd wx a' [.slice a3 p cv, .slice a5 1 1, .slice a4 (lk - (p + 1)) (cv - (p + 1))] ∧ Rd wx a5 [.string v] := Fr xd 22
   clear xo xd;have CA := CV.out wx a51 m51 (chain B2.out hS) r51 s51;clear r51 s51;go_simp;go_wp2_with fail;refine CA.mono ?_;rintro e w9 ⟨⟨v9, rfl, h9⟩, b9⟩;exact HK.out _ _ (out_rdFV h9 hS.size) b9
  refine Fo 24 (fun a wx hS xo xd K HK => ?_) ?_
  ·obtain ⟨a40, c40, d40, r40, l40, m40, n40⟩ : ∃ a' c', a.tmps[40]?.getD undef = .slice a' (LK).length c' ∧ Rd wx a' (LK) ∧ (LK).length ≤ c' ∧ c' ≤ maxLen ∧ ∀ x, a' = some x → w2.heap.size ≤ x.block := Fr xd 11
   obtain ⟨a52, c52, d52, r52, l52, m52, n52⟩ : ∃ a' c', a.tmps[52]?.getD undef = .slice a' (LV).length c' ∧ Rd wx a' (LV) ∧ (LV).length ≤ c' ∧ c' ≤ maxLen ∧ ∀ x, a' = some x → w2.heap.size ≤ x.block := Fr xd 23;clear xo xd;go_simp;exact HK.out _ _ ⟨_, _, _, _, rfl, r40, r52, l40, m40, l52, m52, n40, n52⟩ (Below.refl _ _)
  refine OwesAll.skip (f := 25) ?_;exact OwesAll.nil
 case ends =>
  intro a wx hS hsz hdf hold hdone;simp only [List.getElem?_toArray, List.getElem?_cons_succ, List.getElem?_cons_zero];intro K hK;have HK := Lib.hid hK;clear hK;obtain ⟨xa, xb, xc, xd, d53, q1, q2, q3, q4, q5, q6, q7, q8⟩ : ∃ xa xb xc xd, a.tmps.getD 53 undef = .agg #[.bool true, .slice xa LK.length xc, .slice xb LV.length xd, .slice none 0 0] ∧ Rd wx xa LK ∧ Rd wx xb LV ∧ LK.length ≤ xc ∧ xc ≤ maxLen ∧ LV.length ≤ xd ∧ xd ≤ maxLen ∧ (∀ x, xa = some x → w2.heap.size ≤ x.block) ∧ ∀ x, xb = some x → w2.heap.size ≤ x.block := hdone 24 _ 53 rfl (by decide) rfl
  have d6 : a.tmps.getD 6 undef = .pointer (some ⟨w.heap.size + 1, 0, none⟩) := hold 6 (unset_of (by kernel_rfl));have hdf' : a.defers = [] := hdf;clear hold hdone hsz hdf;rw [Array.getD_eq_getD_getElem?] at d53 d6;have XB := kept X.out hS;rw [show (w.alloc (.cells #[.bool true, .slice ak lk ck, .slice av lk cv, .slice ac lc cc] 97)).heap.size = w.heap.size + 1 from by simp] at XB;have y0 := cl XB 0 rfl;have y1 := cl XB 1 rfl;have y2 := cl XB 2 rfl;have y3 := cl XB 3 rfl;have f0 := Go.Joins.unfrozen_of_block XB 0;have f1 := Go.Joins.unfrozen_of_block XB 1
  have f2 := Go.Joins.unfrozen_of_block XB 2;have f3 := Go.Joins.unfrozen_of_block XB 3;rw [if_pos (by rfl)];go_simp;refine HK.out _ _ ?_
  have B9 : Below w.heap.size w ((((wx.setCell ⟨w.heap.size + 1, 0, none⟩ (.bool true)).setCell ⟨w.heap.size + 1, 1, none⟩ (.slice xa LK.length xc)).setCell ⟨w.heap.size + 1, 2, none⟩ (.slice xb LV.length xd)).setCell ⟨w.heap.size + 1, 3, none⟩ (.slice none 0 0)) :=
   ((((chain B2.out hS).setCell (by simp) _).setCell (by simp) _).setCell (by simp) _).setCell (by simp) _
  clear y0 y1 y2 y3 f0 f1 f2 f3 HK K;go_wp2_with fail;have lt1 : w.heap.size + 1 < w2.heap.size := by have := (Array.getElem?_eq_some_iff.1 X.out).1; simpa using this
  have FIN : Hid (NodOut w.heap.size LK LV (.returned (.agg #[.bool true, .slice xa LK.length xc, .slice xb LV.length xd, .slice none 0 0])) ((((wx.setCell ⟨w.heap.size + 1, 0, none⟩ (.bool true)).setCell ⟨w.heap.size + 1, 1, none⟩ (.slice xa LK.length xc)).setCell ⟨w.heap.size + 1, 2, none⟩ (.slice xb LV.length xd)).setCell ⟨w.heap.size + 1, 3, none⟩ (.slice none 0 0))) :=
   Lib.hid ⟨_, rfl, xa, xb, xc, xd, rfl, q1.set4 _ _ _ _ _ (fun x hx => Nat.lt_of_lt_of_le lt1 (q7 x hx)), q2.set4 _ _ _ _ _ (fun x hx => Nat.lt_of_lt_of_le lt1 (q8 x hx)), q3, q4, q5, q6, fun x hx => Nat.le_trans (Nat.le_of_lt lt0) (q7 x hx), fun x hx => Nat.le_trans (Nat.le_of_lt lt0) (q8 x hx)⟩
  have XR : (((((wx.setCell ⟨w.heap.size + 1, 0, none⟩ (.bool true)).setCell ⟨w.heap.size + 1, 1, none⟩ (.slice xa LK.length xc)).setCell ⟨w.heap.size + 1, 2, none⟩ (.slice xb LV.length xd)).setCell ⟨w.heap.size + 1, 3, none⟩ (.slice none 0 0))).heap[w.heap.size + 1]? = some (.cells #[.bool true, .slice xa LK.length xc, .slice xb LV.length xd, .slice none 0 0] 97) := by
   rw [heap_setCell_same _ _ 3 _ _ _ (heap_setCell_same _ _ 2 _ _ _ (heap_setCell_same _ _ 1 _ _ _ (heap_setCell_same _ _ 0 _ _ _ XB)))]
   rfl
  generalize ((((wx.setCell ⟨w.heap.size + 1, 0, none⟩ (.bool true)).setCell ⟨w.heap.size + 1, 1, none⟩ (.slice xa LK.length xc)).setCell ⟨w.heap.size + 1, 2, none⟩ (.slice xb LV.length xd)).setCell ⟨w.heap.size + 1, 3, none⟩ (.slice none 0 0)) = wz at *;have z0 := cl XR 0 rfl;have z1 := cl XR 1 rfl;have z2 := cl XR 2 rfl;have z3 := cl XR 3 rfl;exact bodyPost_ret (v := .agg #[.bool true, .slice xa LK.length xc, .slice xb LV.length xd, .slice none 0 0]) (by simp [results, Tryz.results77, go_sem, d6, z0, z1, z2, z3]) hdf' ⟨FIN.out, B9⟩
def nodSB (lo : Nat) (LK LC : List Value) : SP := ⟨fun v w => ∃ xa xb xc xd, v = .agg #[.bool false, .slice xa LK.length xc, .slice none 0 0, .slice xb LC.length xd] ∧ Rd w xa LK ∧ Rd w xb LC ∧ LK.length ≤ xc ∧ xc ≤ maxLen ∧ LC.length ≤ xd ∧ xd ≤ maxLen ∧ (∀ x, xa = some x → lo ≤ x.block) ∧ ∀ x, xb = some x → lo ≤ x.block,
 fun _ _ _ ⟨xa, xb, xc, xd, h, q1, q2, q⟩ hb => ⟨xa, xb, xc, xd, h, q1.below hb, q2.below hb, q⟩⟩
def NodOuB (lo : Nat) (LK LC : List Value) (e : Ending) (w' : World) : Prop := ∃ v, e = .returned v ∧ (nodSB lo LK LC).p v w'
theorem hang_yes (ak av ac a1 a2 a3 a4 : Option Addr) (ck cv cc lk lv p : Nat) (key kid : Int) (X1 X2 : List Value) (w : World)
  (WH : Hid (∀ w, Calls Tryz.prog 83 #[.agg #[.bool false, .slice ak lk ck, .slice av lv cv, .slice ac (lk + 1) cc]] w fun e w' => e = .returned (.bool true) ∧ Below w.heap.size w w'))
  (S1 : Hid (sliced ak 0 p ck 1 = .slice a1 p ck))
  (S2 : Hid (sliced ak p lk ck 1 = .slice a2 (lk - p) (ck - p)))
  (S3 : Hid (sliced ac 0 (p + 1) cc 1 = .slice a3 (p + 1) cc))
  (S4 : Hid (sliced ac (p + 1) (lk + 1) cc 1 = .slice a4 (lk - p) (cc - (p + 1))))
  (C1 : Hid (∀ wx a m, Below w.heap.size w wx → Rd wx a [.slice a1 p ck, .slice m 1 1, .slice a2 (lk - p) (ck - p)] → Rd wx m [.int .u64 key] → Calls Tryz.prog 84 #[.slice a 3 3] wx fun e w' => RowOut wx.heap.size 28 X1 e w' ∧ Below wx.heap.size wx w'))
  (C2 : Hid (∀ wx a m, Below w.heap.size w wx → Rd wx a [.slice a3 (p + 1) cc, .slice m 1 1, .slice a4 (lk - p) (cc - (p + 1))] → Rd wx m [.int .i64 kid] → Calls Tryz.prog 109 #[.slice a 3 3] wx fun e w' => RowOut wx.heap.size 3 X2 e w' ∧ Below wx.heap.size wx w'))
  (h1 : p ≤ lk) (h4 : lk ≤ ck) (h5 : lk + 1 ≤ cc) (h6 : lk ≤ 1000) :
  Calls Tryz.prog 79 #[.agg #[.bool false, .slice ak lk ck, .slice av lv cv, .slice ac (lk + 1) cc], .int .i64 (p : Int), .int .u64 key, .int .i64 kid] w fun e w' => NodOuB w.heap.size X1 X2 e w' ∧ Below w.heap.size w w' := by
 have i0 : (0 : Int) ≤ (p : Int) := by omega
 have i1 : (p : Int) ≤ 1000 := by omega
 have i2 : (p : Int) ≤ (ck : Int) := by omega
 have i3 : (p : Int) ≤ (lk : Int) := by omega
 have hw1 : Hid (IntKind.i64.wrap ((p : Int) + 1) = (p : Int) + 1) := Lib.hid (IntWalk.i64_in _ (by omega));have hw2 : Hid (IntKind.i64.wrap ((p : Int) + 2) = (p : Int) + 2) := Lib.hid (IntWalk.i64_in _ (by omega));have i4 : (p : Int) + 1 ≤ (cc : Int) := by omega
 have i5 : ¬ (lk : Int) < (p : Int) := by omega
 go_enter Tryz.func79, Tryz.ntmps79;go_wp2_with fail;refine (WH.out _).mono ?_;rintro e w2 ⟨rfl, b1⟩;have X1' := kept (heap_alloc_new (w.alloc _) _) b1;have Y1' := kept (show ((w.alloc (.cells #[.bool false, .slice ak lk ck, .slice av lv cv, .slice ac (lk + 1) cc] 97)).alloc (.cells #[.bool false, .slice none 0 0, .slice none 0 0, .slice none 0 0] 97)).heap[w.heap.size]? = some (.cells #[.bool false, .slice ak lk ck, .slice av lv cv, .slice ac (lk + 1) cc] 97) from (heap_alloc_old _ _ (by simp)).trans (heap_alloc_new w _)) b1
 have B1 : Below w.heap.size w w2 := (((Below.refl _ _).alloc (Nat.le_refl _) _).alloc (by simp) _).trans (b1.mono (by simp; omega));rw [show (w.alloc (.cells #[.bool false, .slice ak lk ck, .slice av lv cv, .slice ac (lk + 1) cc] 97)).heap.size = w.heap.size + 1 from by simp] at X1';have lt0 : w.heap.size < w2.heap.size := (Array.getElem?_eq_some_iff.1 Y1').1;have c0' := cl (Y1') 0 rfl;have c1 := cl (Y1') 1 rfl;have c2 := cl (Y1') 2 rfl;have c3 := cl (Y1') 3 rfl;have X := Lib.hid X1';have B2 := Lib.hid B1;clear b1 X1' Y1' B1;clear WH;go_wp2_with fail
 refine region_kit 27 55 [eqV (.pointer (some ⟨w.heap.size, 1, none⟩)), eqV (.slice ak lk ck), eqV (.int .i64 (p : Int)), eqV (.slice a1 p ck), eqV (.int .u64 key), lstV [.int .u64 key], eqV (.pointer (some ⟨w.heap.size, 1, none⟩)), eqV (.slice ak lk ck), eqV (.int .i64 (p : Int)), eqV (.slice a2 (lk - p) (ck - p)), lst3V (.slice a1 p ck) (.slice a2 (lk - p) (ck - p)) [.int .u64 key], rdFV w2.heap.size X1, eqV (.pointer (some ⟨w.heap.size, 3, none⟩)), eqV (.slice ac (lk + 1) cc), eqV (.int .i64 (p : Int)), eqV (.int .i64 ((p : Int) + 1)), eqV (.slice a3 (p + 1) cc), eqV (.int .i64 kid), lstV [.int .i64 kid], eqV (.pointer (some ⟨w.heap.size, 3, none⟩)), eqV (.slice ac (lk + 1) cc), eqV (.int .i64 (p : Int)), eqV (.int .i64 ((p : Int) + 1)), eqV (.slice a4 (lk - p) (cc - (p + 1))), lst3V (.slice a3 (p + 1) cc) (.slice a4 (lk - p) (cc - (p + 1))) [.int .i64 kid], rdFV w2.heap.size X2, nodSB w2.heap.size X1 X2, anyV] (by kernel_rfl) (by kernel_rfl) (by rfl) ?owes ?ends
 case owes =>
  refine Fo 0 (fun a wx hS xo xd K HK => ?_) ?_
  ·have d4 := Fl xo 4
   clear xo xd;go_simp;exact HK.out _ _ rfl (Below.refl _ _)
  refine Fo 1 (fun a wx hS xo xd K HK => ?_) ?_
  ·have d28 := Fq xd 0
   clear xo xd;have c0 : wx.cell? ⟨w.heap.size, 1, none⟩ = some (.slice ak lk ck) := (hS.cell (p := ⟨w.heap.size, 1, none⟩) lt0).trans c1;go_simp;exact HK.out _ _ rfl (Below.refl _ _)
  refine Fo 2 (fun a wx hS xo xd K HK => ?_) ?_
  ·have d1 := Fl xo 1
   clear xo xd;go_simp;exact HK.out _ _ rfl (Below.refl _ _)
  refine Fo 3 (fun a wx hS xo xd K HK => ?_) ?_
  ·have d29 := Fq xd 1
   have d30 := Fq xd 2;clear xo xd;go_simp;refine HK.out _ _ ?_ (Below.refl _ _)
   show _ = _
   rw [← S1.out];simp [sliced, add0, Addr.add]
  refine Fo 4 (fun a wx hS xo xd K HK => ?_) ?_
  ·have d2 := Fl xo 2
   clear xo xd;go_simp;exact HK.out _ _ rfl (Below.refl _ _)
  refine Fo 5 (fun a wx hS xo xd K HK => ?_) ?_
  ·have d32 := Fq xd 4
   clear xo xd;go_simp;exact HK.out _ _ ⟨_, rfl, Rd.made _ _ _⟩ (below_made _ _)
  refine Fo 6 (fun a wx hS xo xd K HK => ?_) ?_
  ·have d4 := Fl xo 4
   clear xo xd;go_simp;exact HK.out _ _ rfl (Below.refl _ _)
  refine Fo 7 (fun a wx hS xo xd K HK => ?_) ?_
  ·have d34 := Fq xd 6
   clear xo xd;have c0 : wx.cell? ⟨w.heap.size, 1, none⟩ = some (.slice ak lk ck) := (hS.cell (p := ⟨w.heap.size, 1, none⟩) lt0).trans c1;go_simp;exact HK.out _ _ rfl (Below.refl _ _)
  refine Fo 8 (fun a wx hS xo xd K HK => ?_) ?_
  ·have d1 := Fl xo 1
   clear xo xd;go_simp;exact HK.out _ _ rfl (Below.refl _ _)
  refine Fo 9 (fun a wx hS xo xd K HK => ?_) ?_
  ·have d35 := Fq xd 7
   have d36 := Fq xd 8;clear xo xd;go_simp;refine HK.out _ _ ?_ (Below.refl _ _)
   show _ = _
   rw [← S2.out];simp [sliced, add0, Addr.add]
  refine Fo 10 (fun a wx hS xo xd K HK => ?_) ?_
  ·have d31 := Fq xd 3
   obtain ⟨a33, d33, r33⟩ : ∃ a', a.tmps[33]?.getD undef = .slice a' 1 1 ∧ Rd wx a' [.int .u64 key] := Fr xd 5;have d37 := Fq xd 9;clear xo xd;go_simp;exact HK.out _ _ ⟨_, a33, rfl, Rd.made _ _ _, r33.below (below_made _ _)⟩ (below_made _ _)
  refine Fo 11 (fun a wx hS xo xd K HK => ?_) ?_
  ·obtain ⟨a38, m38, d38, r38, s38⟩ : ∃ a' a5, a.tmps[38]?.getD undef = .slice a' 3 3 ∧ Rd wx a' [.slice a1 p ck, .slice a5 1 1, .slice a2 (lk - p) (ck - p)] ∧ Rd wx a5 [.int .u64 key] := Fr xd 10
   clear xo xd;have CA := C1.out wx a38 m38 (chain B2.out hS) r38 s38;clear r38 s38;go_simp;go_wp2_with fail;refine CA.mono ?_;rintro e w9 ⟨⟨v9, rfl, h9⟩, b9⟩;exact HK.out _ _ (out_rdFV h9 hS.size) b9
  refine Fo 12 (fun a wx hS xo xd K HK => ?_) ?_
  ·have d4 := Fl xo 4
   clear xo xd;go_simp;exact HK.out _ _ rfl (Below.refl _ _)
  refine Fo 13 (fun a wx hS xo xd K HK => ?_) ?_
  ·have d40 := Fq xd 12
   clear xo xd;have c0 : wx.cell? ⟨w.heap.size, 3, none⟩ = some (.slice ac (lk + 1) cc) := (hS.cell (p := ⟨w.heap.size, 3, none⟩) lt0).trans c3;go_simp;exact HK.out _ _ rfl (Below.refl _ _)
  refine Fo 14 (fun a wx hS xo xd K HK => ?_) ?_
  ·have d1 := Fl xo 1
   clear xo xd;go_simp;exact HK.out _ _ rfl (Below.refl _ _)
  refine Fo 15 (fun a wx hS xo xd K HK => ?_) ?_
  ·have d42 := Fq xd 14
   clear xo xd;go_simp;refine HK.out _ _ ?_ (Below.refl _ _)
   show _ = _
   first | rfl | rw [hw1.out]
  refine Fo 16 (fun a wx hS xo xd K HK => ?_) ?_
  ·have d41 := Fq xd 13
   have d43 := Fq xd 15;clear xo xd;go_simp;refine HK.out _ _ ?_ (Below.refl _ _)
   show _ = _
   rw [← S3.out];simp [sliced, add0, Addr.add]
  refine Fo 17 (fun a wx hS xo xd K HK => ?_) ?_
  ·have d3 := Fl xo 3
   clear xo xd;go_simp;exact HK.out _ _ rfl (Below.refl _ _)
  refine Fo 18 (fun a wx hS xo xd K HK => ?_) ?_
  ·have d45 := Fq xd 17
   clear xo xd;go_simp;exact HK.out _ _ ⟨_, rfl, Rd.made _ _ _⟩ (below_made _ _)
  refine Fo 19 (fun a wx hS xo xd K HK => ?_) ?_
  ·have d4 := Fl xo 4
   clear xo xd;go_simp;exact HK.out _ _ rfl (Below.refl _ _)
  refine Fo 20 (fun a wx hS xo xd K HK => ?_) ?_
  ·have d47 := Fq xd 19
   clear xo xd;have c0 : wx.cell? ⟨w.heap.size, 3, none⟩ = some (.slice ac (lk + 1) cc) := (hS.cell (p := ⟨w.heap.size, 3, none⟩) lt0).trans c3;go_simp;exact HK.out _ _ rfl (Below.refl _ _)
  refine Fo 21 (fun a wx hS xo xd K HK => ?_) ?_
  ·have d1 := Fl xo 1
   clear xo xd;go_simp;exact HK.out _ _ rfl (Below.refl _ _)
  refine Fo 22 (fun a wx hS xo xd K HK => ?_) ?_
  ·have d49 := Fq xd 21
   clear xo xd;go_simp;refine HK.out _ _ ?_ (Below.refl _ _)
   show _ = _
   first | rfl | rw [hw1.out]
  refine Fo 23 (fun a wx hS xo xd K HK => ?_) ?_
  ·have d48 := Fq xd 20
   have d50 := Fq xd 22;clear xo xd;go_simp;refine HK.out _ _ ?_ (Below.refl _ _)
   show _ = _
   rw [← S4.out];simp [sliced, add0, Addr.add]
  refine Fo 24 (fun a wx hS xo xd K HK => ?_) ?_
  ·have d44 := Fq xd 16
   obtain ⟨a46, d46, r46⟩ : ∃ a', a.tmps[46]?.getD undef = .slice a' 1 1 ∧ Rd wx a' [.int .i64 kid] := Fr xd 18;have d51 := Fq xd 23;clear xo xd;go_simp;exact HK.out _ _ ⟨_, a46, rfl, Rd.made _ _ _, r46.below (below_made _ _)⟩ (below_made _ _)
  refine Fo 25 (fun a wx hS xo xd K HK => ?_) ?_
  ·obtain ⟨a52, m52, d52, r52, s52⟩ : ∃ a' a5, a.tmps[52]?.getD undef = .slice a' 3 3 ∧ Rd wx a' [.slice a3 (p + 1) cc, .slice a5 1 1, .slice a4 (lk - p) (cc - (p + 1))] ∧ Rd wx a5 [.int .i64 kid] := Fr xd 24
   clear xo xd;have CA := C2.out wx a52 m52 (chain B2.out hS) r52 s52;clear r52 s52;go_simp;go_wp2_with fail;refine CA.mono ?_;rintro e w9 ⟨⟨v9, rfl, h9⟩, b9⟩;exact HK.out _ _ (out_rdFV h9 hS.size) b9
  refine Fo 26 (fun a wx hS xo xd K HK => ?_) ?_
  ·obtain ⟨a39, c39, d39, r39, l39, m39, n39⟩ : ∃ a' c', a.tmps[39]?.getD undef = .slice a' X1.length c' ∧ Rd wx a' X1 ∧ X1.length ≤ c' ∧ c' ≤ maxLen ∧ ∀ x, a' = some x → w2.heap.size ≤ x.block := Fr xd 11
   obtain ⟨a53, c53, d53, r53, l53, m53, n53⟩ : ∃ a' c', a.tmps[53]?.getD undef = .slice a' X2.length c' ∧ Rd wx a' X2 ∧ X2.length ≤ c' ∧ c' ≤ maxLen ∧ ∀ x, a' = some x → w2.heap.size ≤ x.block := Fr xd 25;clear xo xd;go_simp;exact HK.out _ _ ⟨_, _, _, _, rfl, r39, r53, l39, m39, l53, m53, n39, n53⟩ (Below.refl _ _)
  refine OwesAll.skip (f := 27) ?_;exact OwesAll.nil
 case ends =>
  intro a wx hS hsz hdf hold hdone;simp only [List.getElem?_toArray, List.getElem?_cons_succ, List.getElem?_cons_zero];intro K hK;have HK := Lib.hid hK;clear hK;obtain ⟨xa, xb, xc, xd, dB, q1, q2, q3, q4, q5, q6, q7, q8⟩ : ∃ xa xb xc xd, a.tmps.getD 54 undef = .agg #[.bool false, .slice xa X1.length xc, .slice none 0 0, .slice xb X2.length xd] ∧ Rd wx xa X1 ∧ Rd wx xb X2 ∧ X1.length ≤ xc ∧ xc ≤ maxLen ∧ X2.length ≤ xd ∧ xd ≤ maxLen ∧ (∀ x, xa = some x → w2.heap.size ≤ x.block) ∧ ∀ x, xb = some x → w2.heap.size ≤ x.block := hdone 26 _ 54 rfl (by decide) rfl
  have dR : a.tmps.getD 8 undef = .pointer (some ⟨w.heap.size + 1, 0, none⟩) := hold 8 (unset_of (by kernel_rfl));have hdf' : a.defers = [] := hdf;clear hold hdone hsz hdf;rw [Array.getD_eq_getD_getElem?] at dB dR;have XB := kept X.out hS;have y0 := cl XB 0 rfl;have y1 := cl XB 1 rfl;have y2 := cl XB 2 rfl;have y3 := cl XB 3 rfl;have f0 := Go.Joins.unfrozen_of_block XB 0;have f1 := Go.Joins.unfrozen_of_block XB 1;have f2 := Go.Joins.unfrozen_of_block XB 2;have f3 := Go.Joins.unfrozen_of_block XB 3;rw [if_pos (by rfl)];go_simp;refine HK.out _ _ ?_
  have B9 : Below w.heap.size w ((((wx.setCell ⟨w.heap.size + 1, 0, none⟩ (.bool false)).setCell ⟨w.heap.size + 1, 1, none⟩ (.slice xa X1.length xc)).setCell ⟨w.heap.size + 1, 2, none⟩ (.slice none 0 0)).setCell ⟨w.heap.size + 1, 3, none⟩ (.slice xb X2.length xd)) :=
   ((((chain B2.out hS).setCell (by simp) _).setCell (by simp) _).setCell (by simp) _).setCell (by simp) _
  clear y0 y1 y2 y3 f0 f1 f2 f3 HK K;go_wp2_with fail;have lt1 : w.heap.size + 1 < w2.heap.size := (Array.getElem?_eq_some_iff.1 X.out).1
  have FIN : Hid (NodOuB w.heap.size X1 X2 (.returned (.agg #[.bool false, .slice xa X1.length xc, .slice none 0 0, .slice xb X2.length xd])) ((((wx.setCell ⟨w.heap.size + 1, 0, none⟩ (.bool false)).setCell ⟨w.heap.size + 1, 1, none⟩ (.slice xa X1.length xc)).setCell ⟨w.heap.size + 1, 2, none⟩ (.slice none 0 0)).setCell ⟨w.heap.size + 1, 3, none⟩ (.slice xb X2.length xd))) :=
   Lib.hid ⟨_, rfl, xa, xb, xc, xd, rfl, q1.set4 _ _ _ _ _ (fun x hx => Nat.lt_of_lt_of_le lt1 (q7 x hx)), q2.set4 _ _ _ _ _ (fun x hx => Nat.lt_of_lt_of_le lt1 (q8 x hx)), q3, q4, q5, q6, fun x hx => Nat.le_trans (Nat.le_of_lt lt0) (q7 x hx), fun x hx => Nat.le_trans (Nat.le_of_lt lt0) (q8 x hx)⟩
  have XR : ((((wx.setCell ⟨w.heap.size + 1, 0, none⟩ (.bool false)).setCell ⟨w.heap.size + 1, 1, none⟩ (.slice xa X1.length xc)).setCell ⟨w.heap.size + 1, 2, none⟩ (.slice none 0 0)).setCell ⟨w.heap.size + 1, 3, none⟩ (.slice xb X2.length xd)).heap[w.heap.size + 1]? = some (.cells #[.bool false, .slice xa X1.length xc, .slice none 0 0, .slice xb X2.length xd] 97) := by
   rw [heap_setCell_same _ _ 3 _ _ _ (heap_setCell_same _ _ 2 _ _ _ (heap_setCell_same _ _ 1 _ _ _ (heap_setCell_same _ _ 0 _ _ _ XB)))]
   rfl
  generalize ((((wx.setCell ⟨w.heap.size + 1, 0, none⟩ (.bool false)).setCell ⟨w.heap.size + 1, 1, none⟩ (.slice xa X1.length xc)).setCell ⟨w.heap.size + 1, 2, none⟩ (.slice none 0 0)).setCell ⟨w.heap.size + 1, 3, none⟩ (.slice xb X2.length xd)) = wz at *;have z0 := cl XR 0 rfl;have z1 := cl XR 1 rfl;have z2 := cl XR 2 rfl;have z3 := cl XR 3 rfl;exact bodyPost_ret (v := .agg #[.bool false, .slice xa X1.length xc, .slice none 0 0, .slice xb X2.length xd]) (by simp [results, Tryz.results79, go_sem, dR, z0, z1, z2, z3]) hdf' ⟨FIN.out, B9⟩
theorem without_yes (ak av ac a1 a2 a3 a4 : Option Addr) (ck cv cc lk lc p : Nat) (X1 X2 : List Value) (w : World)
  (WH : Hid (∀ w, Calls Tryz.prog 83 #[.agg #[.bool true, .slice ak lk ck, .slice av lk cv, .slice ac lc cc]] w fun e w' => e = .returned (.bool true) ∧ Below w.heap.size w w'))
  (S1 : Hid (sliced ak 0 p ck 1 = .slice a1 p ck))
  (S2 : Hid (sliced ak (p + 1) lk ck 1 = .slice a2 (lk - (p + 1)) (ck - (p + 1))))
  (S3 : Hid (sliced av 0 p cv 1 = .slice a3 p cv))
  (S4 : Hid (sliced av (p + 1) lk cv 1 = .slice a4 (lk - (p + 1)) (cv - (p + 1))))
  (C1 : Hid (∀ wx a, Below w.heap.size w wx → Rd wx a [.slice a1 p ck, .slice a2 (lk - (p + 1)) (ck - (p + 1))] → Calls Tryz.prog 84 #[.slice a 2 2] wx fun e w' => RowOut wx.heap.size 28 X1 e w' ∧ Below wx.heap.size wx w'))
  (C2 : Hid (∀ wx a, Below w.heap.size w wx → Rd wx a [.slice a3 p cv, .slice a4 (lk - (p + 1)) (cv - (p + 1))] → Calls Tryz.prog 85 #[.slice a 2 2] wx fun e w' => RowOut wx.heap.size 9 X2 e w' ∧ Below wx.heap.size wx w'))
  (h1 : p + 1 ≤ lk) (h4 : lk ≤ ck) (h5 : lk ≤ cv) (h6 : lk ≤ 1000) :
  Calls Tryz.prog 48 #[.agg #[.bool true, .slice ak lk ck, .slice av lk cv, .slice ac lc cc], .int .i64 (p : Int)] w fun e w' => NodOut w.heap.size X1 X2 e w' ∧ Below w.heap.size w w' := by
 have i0 : (0 : Int) ≤ (p : Int) := by omega
 have i1 : (p : Int) ≤ 1000 := by omega
 have i2 : (p : Int) ≤ (ck : Int) := by omega
 have i3 : (p : Int) ≤ (lk : Int) := by omega
 have hw1 : Hid (IntKind.i64.wrap ((p : Int) + 1) = (p : Int) + 1) := Lib.hid (IntWalk.i64_in _ (by omega));have hw2 : Hid (IntKind.i64.wrap ((p : Int) + 2) = (p : Int) + 2) := Lib.hid (IntWalk.i64_in _ (by omega));have i4 : (p : Int) + 1 ≤ (lk : Int) := by omega
 have i5 : (p : Int) < (lk : Int) := by omega
 have i6 : (p : Int) ≤ (cv : Int) := by omega
 go_enter Tryz.func48, Tryz.ntmps48;go_wp2_with fail;refine (WH.out _).mono ?_;rintro e w2 ⟨rfl, b1⟩;have X1' := kept (heap_alloc_new (w.alloc _) _) b1;have Y1' := kept (show ((w.alloc (.cells #[.bool true, .slice ak lk ck, .slice av lk cv, .slice ac lc cc] 97)).alloc (.cells #[.bool false, .slice none 0 0, .slice none 0 0, .slice none 0 0] 97)).heap[w.heap.size]? = some (.cells #[.bool true, .slice ak lk ck, .slice av lk cv, .slice ac lc cc] 97) from (heap_alloc_old _ _ (by simp)).trans (heap_alloc_new w _)) b1
 have B1 : Below w.heap.size w w2 := (((Below.refl _ _).alloc (Nat.le_refl _) _).alloc (by simp) _).trans (b1.mono (by simp; omega));rw [show (w.alloc (.cells #[.bool true, .slice ak lk ck, .slice av lk cv, .slice ac lc cc] 97)).heap.size = w.heap.size + 1 from by simp] at X1';have lt0 : w.heap.size < w2.heap.size := (Array.getElem?_eq_some_iff.1 Y1').1;have c0' := cl (Y1') 0 rfl;have c1 := cl (Y1') 1 rfl;have c2 := cl (Y1') 2 rfl;have c3 := cl (Y1') 3 rfl;have X := Lib.hid X1';have B2 := Lib.hid B1;clear b1 X1' Y1' B1;clear WH;go_wp2_with fail
 refine region_kit 23 48 [eqV (.pointer (some ⟨w.heap.size, 1, none⟩)), eqV (.slice ak lk ck), eqV (.int .i64 (p : Int)), eqV (.slice a1 p ck), eqV (.pointer (some ⟨w.heap.size, 1, none⟩)), eqV (.slice ak lk ck), eqV (.int .i64 (p : Int)), eqV (.int .i64 ((p : Int) + 1)), eqV (.slice a2 (lk - (p + 1)) (ck - (p + 1))), lstV [.slice a1 p ck, .slice a2 (lk - (p + 1)) (ck - (p + 1))], rdFV w2.heap.size X1, eqV (.pointer (some ⟨w.heap.size, 2, none⟩)), eqV (.slice av lk cv), eqV (.int .i64 (p : Int)), eqV (.slice a3 p cv), eqV (.pointer (some ⟨w.heap.size, 2, none⟩)), eqV (.slice av lk cv), eqV (.int .i64 (p : Int)), eqV (.int .i64 ((p : Int) + 1)), eqV (.slice a4 (lk - (p + 1)) (cv - (p + 1))), lstV [.slice a3 p cv, .slice a4 (lk - (p + 1)) (cv - (p + 1))], rdFV w2.heap.size X2, nodSP w2.heap.size X1 X2, anyV] (by kernel_rfl) (by kernel_rfl) (by rfl) ?owes ?ends
 case owes =>
  refine Fo 0 (fun a wx hS xo xd K HK => ?_) ?_
  ·have d2 := Fl xo 2
   clear xo xd;go_simp;exact HK.out _ _ rfl (Below.refl _ _)
  refine Fo 1 (fun a wx hS xo xd K HK => ?_) ?_
  ·have d25 := Fq xd 0
   clear xo xd;have c0 : wx.cell? ⟨w.heap.size, 1, none⟩ = some (.slice ak lk ck) := (hS.cell (p := ⟨w.heap.size, 1, none⟩) lt0).trans c1;go_simp;exact HK.out _ _ rfl (Below.refl _ _)
  refine Fo 2 (fun a wx hS xo xd K HK => ?_) ?_
  ·have d1 := Fl xo 1
   clear xo xd;go_simp;exact HK.out _ _ rfl (Below.refl _ _)
  refine Fo 3 (fun a wx hS xo xd K HK => ?_) ?_
  ·have d26 := Fq xd 1
   have d27 := Fq xd 2;clear xo xd;go_simp;refine HK.out _ _ ?_ (Below.refl _ _)
   show _ = _
   rw [← S1.out];simp [sliced, add0, Addr.add]
  refine Fo 4 (fun a wx hS xo xd K HK => ?_) ?_
  ·have d2 := Fl xo 2
   clear xo xd;go_simp;exact HK.out _ _ rfl (Below.refl _ _)
  refine Fo 5 (fun a wx hS xo xd K HK => ?_) ?_
  ·have d29 := Fq xd 4
   clear xo xd;have c0 : wx.cell? ⟨w.heap.size, 1, none⟩ = some (.slice ak lk ck) := (hS.cell (p := ⟨w.heap.size, 1, none⟩) lt0).trans c1;go_simp;exact HK.out _ _ rfl (Below.refl _ _)
  refine Fo 6 (fun a wx hS xo xd K HK => ?_) ?_
  ·have d1 := Fl xo 1
   clear xo xd;go_simp;exact HK.out _ _ rfl (Below.refl _ _)
  refine Fo 7 (fun a wx hS xo xd K HK => ?_) ?_
  ·have d31 := Fq xd 6
   clear xo xd;go_simp;refine HK.out _ _ ?_ (Below.refl _ _)
   show _ = _
   first | rfl | rw [hw1.out]
  refine Fo 8 (fun a wx hS xo xd K HK => ?_) ?_
  ·have d30 := Fq xd 5
   have d32 := Fq xd 7;clear xo xd;go_simp;refine HK.out _ _ ?_ (Below.refl _ _)
   show _ = _
   rw [← S2.out];simp [sliced, add0, Addr.add]
  refine Fo 9 (fun a wx hS xo xd K HK => ?_) ?_
  ·have d28 := Fq xd 3
   have d33 := Fq xd 8;clear xo xd;go_simp;exact HK.out _ _ ⟨_, rfl, Rd.made _ _ _⟩ (below_made _ _)
  refine Fo 10 (fun a wx hS xo xd K HK => ?_) ?_
  ·obtain ⟨a34, d34, r34⟩ : ∃ a', a.tmps[34]?.getD undef = .slice a' 2 2 ∧ Rd wx a' [.slice a1 p ck, .slice a2 (lk - (p + 1)) (ck - (p + 1))] := Fr xd 9
   clear xo xd;have CA := C1.out wx a34 (chain B2.out hS) r34;clear r34;go_simp;go_wp2_with fail;refine CA.mono ?_;rintro e w9 ⟨⟨v9, rfl, h9⟩, b9⟩;exact HK.out _ _ (out_rdFV h9 hS.size) b9
  refine Fo 11 (fun a wx hS xo xd K HK => ?_) ?_
  ·have d2 := Fl xo 2
   clear xo xd;go_simp;exact HK.out _ _ rfl (Below.refl _ _)
  refine Fo 12 (fun a wx hS xo xd K HK => ?_) ?_
  ·have d36 := Fq xd 11
   clear xo xd;have c0 : wx.cell? ⟨w.heap.size, 2, none⟩ = some (.slice av lk cv) := (hS.cell (p := ⟨w.heap.size, 2, none⟩) lt0).trans c2;go_simp;exact HK.out _ _ rfl (Below.refl _ _)
  refine Fo 13 (fun a wx hS xo xd K HK => ?_) ?_
  ·have d1 := Fl xo 1
   clear xo xd;go_simp;exact HK.out _ _ rfl (Below.refl _ _)
  refine Fo 14 (fun a wx hS xo xd K HK => ?_) ?_
  ·have d37 := Fq xd 12
   have d38 := Fq xd 13;clear xo xd;go_simp;refine HK.out _ _ ?_ (Below.refl _ _)
   show _ = _
   rw [← S3.out];simp [sliced, add0, Addr.add]
  refine Fo 15 (fun a wx hS xo xd K HK => ?_) ?_
  ·have d2 := Fl xo 2
   clear xo xd;go_simp;exact HK.out _ _ rfl (Below.refl _ _)
  refine Fo 16 (fun a wx hS xo xd K HK => ?_) ?_
  ·have d40 := Fq xd 15
   clear xo xd;have c0 : wx.cell? ⟨w.heap.size, 2, none⟩ = some (.slice av lk cv) := (hS.cell (p := ⟨w.heap.size, 2, none⟩) lt0).trans c2;go_simp;exact HK.out _ _ rfl (Below.refl _ _)
  refine Fo 17 (fun a wx hS xo xd K HK => ?_) ?_
  ·have d1 := Fl xo 1
   clear xo xd;go_simp;exact HK.out _ _ rfl (Below.refl _ _)
  refine Fo 18 (fun a wx hS xo xd K HK => ?_) ?_
  ·have d42 := Fq xd 17
   clear xo xd;go_simp;refine HK.out _ _ ?_ (Below.refl _ _)
   show _ = _
   first | rfl | rw [hw1.out]
  refine Fo 19 (fun a wx hS xo xd K HK => ?_) ?_
  ·have d41 := Fq xd 16
   have d43 := Fq xd 18;clear xo xd;go_simp;refine HK.out _ _ ?_ (Below.refl _ _)
   show _ = _
   rw [← S4.out];simp [sliced, add0, Addr.add]
  refine Fo 20 (fun a wx hS xo xd K HK => ?_) ?_
  ·have d39 := Fq xd 14
   have d44 := Fq xd 19;clear xo xd;go_simp;exact HK.out _ _ ⟨_, rfl, Rd.made _ _ _⟩ (below_made _ _)
  refine Fo 21 (fun a wx hS xo xd K HK => ?_) ?_
  ·obtain ⟨a45, d45, r45⟩ : ∃ a', a.tmps[45]?.getD undef = .slice a' 2 2 ∧ Rd wx a' [.slice a3 p cv, .slice a4 (lk - (p + 1)) (cv - (p + 1))] := Fr xd 20
   clear xo xd;have CA := C2.out wx a45 (chain B2.out hS) r45;clear r45;go_simp;go_wp2_with fail;refine CA.mono ?_;rintro e w9 ⟨⟨v9, rfl, h9⟩, b9⟩;exact HK.out _ _ (out_rdFV h9 hS.size) b9
  refine Fo 22 (fun a wx hS xo xd K HK => ?_) ?_
  ·obtain ⟨a35, c35, d35, r35, l35, m35, n35⟩ : ∃ a' c', a.tmps[35]?.getD undef = .slice a' X1.length c' ∧ Rd wx a' X1 ∧ X1.length ≤ c' ∧ c' ≤ maxLen ∧ ∀ x, a' = some x → w2.heap.size ≤ x.block := Fr xd 10
   obtain ⟨a46, c46, d46, r46, l46, m46, n46⟩ : ∃ a' c', a.tmps[46]?.getD undef = .slice a' X2.length c' ∧ Rd wx a' X2 ∧ X2.length ≤ c' ∧ c' ≤ maxLen ∧ ∀ x, a' = some x → w2.heap.size ≤ x.block := Fr xd 21;clear xo xd;go_simp;exact HK.out _ _ ⟨_, _, _, _, rfl, r35, r46, l35, m35, l46, m46, n35, n46⟩ (Below.refl _ _)
  refine OwesAll.skip (f := 23) ?_;exact OwesAll.nil
 case ends =>
  intro a wx hS hsz hdf hold hdone;simp only [List.getElem?_toArray, List.getElem?_cons_succ, List.getElem?_cons_zero];intro K hK;have HK := Lib.hid hK;clear hK;obtain ⟨xa, xb, xc, xd, dB, q1, q2, q3, q4, q5, q6, q7, q8⟩ : ∃ xa xb xc xd, a.tmps.getD 47 undef = .agg #[.bool true, .slice xa X1.length xc, .slice xb X2.length xd, .slice none 0 0] ∧ Rd wx xa X1 ∧ Rd wx xb X2 ∧ X1.length ≤ xc ∧ xc ≤ maxLen ∧ X2.length ≤ xd ∧ xd ≤ maxLen ∧ (∀ x, xa = some x → w2.heap.size ≤ x.block) ∧ ∀ x, xb = some x → w2.heap.size ≤ x.block := hdone 22 _ 47 rfl (by decide) rfl
  have dR : a.tmps.getD 4 undef = .pointer (some ⟨w.heap.size + 1, 0, none⟩) := hold 4 (unset_of (by kernel_rfl));have hdf' : a.defers = [] := hdf;clear hold hdone hsz hdf;rw [Array.getD_eq_getD_getElem?] at dB dR;have XB := kept X.out hS;have y0 := cl XB 0 rfl;have y1 := cl XB 1 rfl;have y2 := cl XB 2 rfl;have y3 := cl XB 3 rfl;have f0 := Go.Joins.unfrozen_of_block XB 0;have f1 := Go.Joins.unfrozen_of_block XB 1;have f2 := Go.Joins.unfrozen_of_block XB 2;have f3 := Go.Joins.unfrozen_of_block XB 3;rw [if_pos (by rfl)];go_simp;refine HK.out _ _ ?_
  have B9 : Below w.heap.size w ((((wx.setCell ⟨w.heap.size + 1, 0, none⟩ (.bool true)).setCell ⟨w.heap.size + 1, 1, none⟩ (.slice xa X1.length xc)).setCell ⟨w.heap.size + 1, 2, none⟩ (.slice xb X2.length xd)).setCell ⟨w.heap.size + 1, 3, none⟩ (.slice none 0 0)) :=
   ((((chain B2.out hS).setCell (by simp) _).setCell (by simp) _).setCell (by simp) _).setCell (by simp) _
  clear y0 y1 y2 y3 f0 f1 f2 f3 HK K;go_wp2_with fail;have lt1 : w.heap.size + 1 < w2.heap.size := (Array.getElem?_eq_some_iff.1 X.out).1
  have FIN : Hid (NodOut w.heap.size X1 X2 (.returned (.agg #[.bool true, .slice xa X1.length xc, .slice xb X2.length xd, .slice none 0 0])) ((((wx.setCell ⟨w.heap.size + 1, 0, none⟩ (.bool true)).setCell ⟨w.heap.size + 1, 1, none⟩ (.slice xa X1.length xc)).setCell ⟨w.heap.size + 1, 2, none⟩ (.slice xb X2.length xd)).setCell ⟨w.heap.size + 1, 3, none⟩ (.slice none 0 0))) :=
   Lib.hid ⟨_, rfl, xa, xb, xc, xd, rfl, q1.set4 _ _ _ _ _ (fun x hx => Nat.lt_of_lt_of_le lt1 (q7 x hx)), q2.set4 _ _ _ _ _ (fun x hx => Nat.lt_of_lt_of_le lt1 (q8 x hx)), q3, q4, q5, q6, fun x hx => Nat.le_trans (Nat.le_of_lt lt0) (q7 x hx), fun x hx => Nat.le_trans (Nat.le_of_lt lt0) (q8 x hx)⟩
  have XR : ((((wx.setCell ⟨w.heap.size + 1, 0, none⟩ (.bool true)).setCell ⟨w.heap.size + 1, 1, none⟩ (.slice xa X1.length xc)).setCell ⟨w.heap.size + 1, 2, none⟩ (.slice xb X2.length xd)).setCell ⟨w.heap.size + 1, 3, none⟩ (.slice none 0 0)).heap[w.heap.size + 1]? = some (.cells #[.bool true, .slice xa X1.length xc, .slice xb X2.length xd, .slice none 0 0] 97) := by
   rw [heap_setCell_same _ _ 3 _ _ _ (heap_setCell_same _ _ 2 _ _ _ (heap_setCell_same _ _ 1 _ _ _ (heap_setCell_same _ _ 0 _ _ _ XB)))]
   rfl
  generalize ((((wx.setCell ⟨w.heap.size + 1, 0, none⟩ (.bool true)).setCell ⟨w.heap.size + 1, 1, none⟩ (.slice xa X1.length xc)).setCell ⟨w.heap.size + 1, 2, none⟩ (.slice xb X2.length xd)).setCell ⟨w.heap.size + 1, 3, none⟩ (.slice none 0 0)) = wz at *;have z0 := cl XR 0 rfl;have z1 := cl XR 1 rfl;have z2 := cl XR 2 rfl;have z3 := cl XR 3 rfl;exact bodyPost_ret (v := .agg #[.bool true, .slice xa X1.length xc, .slice xb X2.length xd, .slice none 0 0]) (by simp [results, Tryz.results48, go_sem, dR, z0, z1, z2, z3]) hdf' ⟨FIN.out, B9⟩
theorem unhang_yes (ak av ac a1 a2 a3 a4 : Option Addr) (ck cv cc lk lv p : Nat) (X1 X2 : List Value) (w : World)
  (WH : Hid (∀ w, Calls Tryz.prog 83 #[.agg #[.bool false, .slice ak lk ck, .slice av lv cv, .slice ac (lk + 1) cc]] w fun e w' => e = .returned (.bool true) ∧ Below w.heap.size w w'))
  (S1 : Hid (sliced ak 0 p ck 1 = .slice a1 p ck))
  (S2 : Hid (sliced ak (p + 1) lk ck 1 = .slice a2 (lk - (p + 1)) (ck - (p + 1))))
  (S3 : Hid (sliced ac 0 (p + 1) cc 1 = .slice a3 (p + 1) cc))
  (S4 : Hid (sliced ac (p + 2) (lk + 1) cc 1 = .slice a4 (lk - (p + 1)) (cc - (p + 2))))
  (C1 : Hid (∀ wx a, Below w.heap.size w wx → Rd wx a [.slice a1 p ck, .slice a2 (lk - (p + 1)) (ck - (p + 1))] → Calls Tryz.prog 84 #[.slice a 2 2] wx fun e w' => RowOut wx.heap.size 28 X1 e w' ∧ Below wx.heap.size wx w'))
  (C2 : Hid (∀ wx a, Below w.heap.size w wx → Rd wx a [.slice a3 (p + 1) cc, .slice a4 (lk - (p + 1)) (cc - (p + 2))] → Calls Tryz.prog 109 #[.slice a 2 2] wx fun e w' => RowOut wx.heap.size 3 X2 e w' ∧ Below wx.heap.size wx w'))
  (h1 : p + 1 ≤ lk) (h4 : lk ≤ ck) (h5 : lk + 1 ≤ cc) (h6 : lk ≤ 1000) :
  Calls Tryz.prog 117 #[.agg #[.bool false, .slice ak lk ck, .slice av lv cv, .slice ac (lk + 1) cc], .int .i64 (p : Int)] w fun e w' => NodOuB w.heap.size X1 X2 e w' ∧ Below w.heap.size w w' := by
 have i0 : (0 : Int) ≤ (p : Int) := by omega
 have i1 : (p : Int) ≤ 1000 := by omega
 have i2 : (p : Int) ≤ (ck : Int) := by omega
 have i3 : (p : Int) ≤ (lk : Int) := by omega
 have hw1 : Hid (IntKind.i64.wrap ((p : Int) + 1) = (p : Int) + 1) := Lib.hid (IntWalk.i64_in _ (by omega));have hw2 : Hid (IntKind.i64.wrap ((p : Int) + 2) = (p : Int) + 2) := Lib.hid (IntWalk.i64_in _ (by omega));have i4 : (p : Int) + 1 ≤ (lk : Int) := by omega
 have i5 : (p : Int) < (lk : Int) := by omega
 have i6 : (p : Int) + 1 ≤ (cc : Int) := by omega
 have i7 : (p : Int) + 2 ≤ (lk : Int) + 1 := by omega
 go_enter Tryz.func117, Tryz.ntmps117;go_wp2_with fail;refine (WH.out _).mono ?_;rintro e w2 ⟨rfl, b1⟩;have X1' := kept (heap_alloc_new (w.alloc _) _) b1;have Y1' := kept (show ((w.alloc (.cells #[.bool false, .slice ak lk ck, .slice av lv cv, .slice ac (lk + 1) cc] 97)).alloc (.cells #[.bool false, .slice none 0 0, .slice none 0 0, .slice none 0 0] 97)).heap[w.heap.size]? = some (.cells #[.bool false, .slice ak lk ck, .slice av lv cv, .slice ac (lk + 1) cc] 97) from (heap_alloc_old _ _ (by simp)).trans (heap_alloc_new w _)) b1
 have B1 : Below w.heap.size w w2 := (((Below.refl _ _).alloc (Nat.le_refl _) _).alloc (by simp) _).trans (b1.mono (by simp; omega));rw [show (w.alloc (.cells #[.bool false, .slice ak lk ck, .slice av lv cv, .slice ac (lk + 1) cc] 97)).heap.size = w.heap.size + 1 from by simp] at X1';have lt0 : w.heap.size < w2.heap.size := (Array.getElem?_eq_some_iff.1 Y1').1;have c0' := cl (Y1') 0 rfl;have c1 := cl (Y1') 1 rfl;have c2 := cl (Y1') 2 rfl;have c3 := cl (Y1') 3 rfl;have X := Lib.hid X1';have B2 := Lib.hid B1;clear b1 X1' Y1' B1;clear WH;go_wp2_with fail
 refine region_kit 24 48 [eqV (.pointer (some ⟨w.heap.size, 1, none⟩)), eqV (.slice ak lk ck), eqV (.int .i64 (p : Int)), eqV (.slice a1 p ck), eqV (.pointer (some ⟨w.heap.size, 1, none⟩)), eqV (.slice ak lk ck), eqV (.int .i64 (p : Int)), eqV (.int .i64 ((p : Int) + 1)), eqV (.slice a2 (lk - (p + 1)) (ck - (p + 1))), lstV [.slice a1 p ck, .slice a2 (lk - (p + 1)) (ck - (p + 1))], rdFV w2.heap.size X1, eqV (.pointer (some ⟨w.heap.size, 3, none⟩)), eqV (.slice ac (lk + 1) cc), eqV (.int .i64 (p : Int)), eqV (.int .i64 ((p : Int) + 1)), eqV (.slice a3 (p + 1) cc), eqV (.pointer (some ⟨w.heap.size, 3, none⟩)), eqV (.slice ac (lk + 1) cc), eqV (.int .i64 (p : Int)), eqV (.int .i64 ((p : Int) + 2)), eqV (.slice a4 (lk - (p + 1)) (cc - (p + 2))), lstV [.slice a3 (p + 1) cc, .slice a4 (lk - (p + 1)) (cc - (p + 2))], rdFV w2.heap.size X2, nodSB w2.heap.size X1 X2, anyV] (by kernel_rfl) (by kernel_rfl) (by rfl) ?owes ?ends
 case owes =>
  refine Fo 0 (fun a wx hS xo xd K HK => ?_) ?_
  ·have d2 := Fl xo 2
   clear xo xd;go_simp;exact HK.out _ _ rfl (Below.refl _ _)
  refine Fo 1 (fun a wx hS xo xd K HK => ?_) ?_
  ·have d24 := Fq xd 0
   clear xo xd;have c0 : wx.cell? ⟨w.heap.size, 1, none⟩ = some (.slice ak lk ck) := (hS.cell (p := ⟨w.heap.size, 1, none⟩) lt0).trans c1;go_simp;exact HK.out _ _ rfl (Below.refl _ _)
  refine Fo 2 (fun a wx hS xo xd K HK => ?_) ?_
  ·have d1 := Fl xo 1
   clear xo xd;go_simp;exact HK.out _ _ rfl (Below.refl _ _)
  refine Fo 3 (fun a wx hS xo xd K HK => ?_) ?_
  ·have d25 := Fq xd 1
   have d26 := Fq xd 2;clear xo xd;go_simp;refine HK.out _ _ ?_ (Below.refl _ _)
   show _ = _
   rw [← S1.out];simp [sliced, add0, Addr.add]
  refine Fo 4 (fun a wx hS xo xd K HK => ?_) ?_
  ·have d2 := Fl xo 2
   clear xo xd;go_simp;exact HK.out _ _ rfl (Below.refl _ _)
  refine Fo 5 (fun a wx hS xo xd K HK => ?_) ?_
  ·have d28 := Fq xd 4
   clear xo xd;have c0 : wx.cell? ⟨w.heap.size, 1, none⟩ = some (.slice ak lk ck) := (hS.cell (p := ⟨w.heap.size, 1, none⟩) lt0).trans c1;go_simp;exact HK.out _ _ rfl (Below.refl _ _)
  refine Fo 6 (fun a wx hS xo xd K HK => ?_) ?_
  ·have d1 := Fl xo 1
   clear xo xd;go_simp;exact HK.out _ _ rfl (Below.refl _ _)
  refine Fo 7 (fun a wx hS xo xd K HK => ?_) ?_
  ·have d30 := Fq xd 6
   clear xo xd;go_simp;refine HK.out _ _ ?_ (Below.refl _ _)
   show _ = _
   first | rfl | rw [hw1.out]
  refine Fo 8 (fun a wx hS xo xd K HK => ?_) ?_
  ·have d29 := Fq xd 5
   have d31 := Fq xd 7;clear xo xd;go_simp;refine HK.out _ _ ?_ (Below.refl _ _)
   show _ = _
   rw [← S2.out];simp [sliced, add0, Addr.add]
  refine Fo 9 (fun a wx hS xo xd K HK => ?_) ?_
  ·have d27 := Fq xd 3
   have d32 := Fq xd 8;clear xo xd;go_simp;exact HK.out _ _ ⟨_, rfl, Rd.made _ _ _⟩ (below_made _ _)
  refine Fo 10 (fun a wx hS xo xd K HK => ?_) ?_
  ·obtain ⟨a33, d33, r33⟩ : ∃ a', a.tmps[33]?.getD undef = .slice a' 2 2 ∧ Rd wx a' [.slice a1 p ck, .slice a2 (lk - (p + 1)) (ck - (p + 1))] := Fr xd 9
   clear xo xd;have CA := C1.out wx a33 (chain B2.out hS) r33;clear r33;go_simp;go_wp2_with fail;refine CA.mono ?_;rintro e w9 ⟨⟨v9, rfl, h9⟩, b9⟩;exact HK.out _ _ (out_rdFV h9 hS.size) b9
  refine Fo 11 (fun a wx hS xo xd K HK => ?_) ?_
  ·have d2 := Fl xo 2
   clear xo xd;go_simp;exact HK.out _ _ rfl (Below.refl _ _)
  refine Fo 12 (fun a wx hS xo xd K HK => ?_) ?_
  ·have d35 := Fq xd 11
   clear xo xd;have c0 : wx.cell? ⟨w.heap.size, 3, none⟩ = some (.slice ac (lk + 1) cc) := (hS.cell (p := ⟨w.heap.size, 3, none⟩) lt0).trans c3;go_simp;exact HK.out _ _ rfl (Below.refl _ _)
  refine Fo 13 (fun a wx hS xo xd K HK => ?_) ?_
  ·have d1 := Fl xo 1
   clear xo xd;go_simp;exact HK.out _ _ rfl (Below.refl _ _)
  refine Fo 14 (fun a wx hS xo xd K HK => ?_) ?_
  ·have d37 := Fq xd 13
   clear xo xd;go_simp;refine HK.out _ _ ?_ (Below.refl _ _)
   show _ = _
   first | rfl | rw [hw1.out]
  refine Fo 15 (fun a wx hS xo xd K HK => ?_) ?_
  ·have d36 := Fq xd 12
   have d38 := Fq xd 14;clear xo xd;go_simp;refine HK.out _ _ ?_ (Below.refl _ _)
   show _ = _
   rw [← S3.out];simp [sliced, add0, Addr.add]
  refine Fo 16 (fun a wx hS xo xd K HK => ?_) ?_
  ·have d2 := Fl xo 2
   clear xo xd;go_simp;exact HK.out _ _ rfl (Below.refl _ _)
  refine Fo 17 (fun a wx hS xo xd K HK => ?_) ?_
  ·have d40 := Fq xd 16
   clear xo xd;have c0 : wx.cell? ⟨w.heap.size, 3, none⟩ = some (.slice ac (lk + 1) cc) := (hS.cell (p := ⟨w.heap.size, 3, none⟩) lt0).trans c3;go_simp;exact HK.out _ _ rfl (Below.refl _ _)
  refine Fo 18 (fun a wx hS xo xd K HK => ?_) ?_
  ·have d1 := Fl xo 1
   clear xo xd;go_simp;exact HK.out _ _ rfl (Below.refl _ _)
  refine Fo 19 (fun a wx hS xo xd K HK => ?_) ?_
  ·have d42 := Fq xd 18
   clear xo xd;go_simp;refine HK.out _ _ ?_ (Below.refl _ _)
   show _ = _
   first | rfl | rw [hw2.out]
  refine Fo 20 (fun a wx hS xo xd K HK => ?_) ?_
  ·have d41 := Fq xd 17
   have d43 := Fq xd 19;clear xo xd;go_simp;refine HK.out _ _ ?_ (Below.refl _ _)
   show _ = _
   rw [← S4.out];simp [sliced, add0, Addr.add, show ((p : Int) + 2).toNat = p + 2 from by omega, show ¬ ((p : Int) + 2 ≤ 0) from by omega]
  refine Fo 21 (fun a wx hS xo xd K HK => ?_) ?_
  ·have d39 := Fq xd 15
   have d44 := Fq xd 20;clear xo xd;go_simp;exact HK.out _ _ ⟨_, rfl, Rd.made _ _ _⟩ (below_made _ _)
  refine Fo 22 (fun a wx hS xo xd K HK => ?_) ?_
  ·obtain ⟨a45, d45, r45⟩ : ∃ a', a.tmps[45]?.getD undef = .slice a' 2 2 ∧ Rd wx a' [.slice a3 (p + 1) cc, .slice a4 (lk - (p + 1)) (cc - (p + 2))] := Fr xd 21
   clear xo xd;have CA := C2.out wx a45 (chain B2.out hS) r45;clear r45;go_simp;go_wp2_with fail;refine CA.mono ?_;rintro e w9 ⟨⟨v9, rfl, h9⟩, b9⟩;exact HK.out _ _ (out_rdFV h9 hS.size) b9
  refine Fo 23 (fun a wx hS xo xd K HK => ?_) ?_
  ·obtain ⟨a34, c34, d34, r34, l34, m34, n34⟩ : ∃ a' c', a.tmps[34]?.getD undef = .slice a' X1.length c' ∧ Rd wx a' X1 ∧ X1.length ≤ c' ∧ c' ≤ maxLen ∧ ∀ x, a' = some x → w2.heap.size ≤ x.block := Fr xd 10
   obtain ⟨a46, c46, d46, r46, l46, m46, n46⟩ : ∃ a' c', a.tmps[46]?.getD undef = .slice a' X2.length c' ∧ Rd wx a' X2 ∧ X2.length ≤ c' ∧ c' ≤ maxLen ∧ ∀ x, a' = some x → w2.heap.size ≤ x.block := Fr xd 22;clear xo xd;go_simp;exact HK.out _ _ ⟨_, _, _, _, rfl, r34, r46, l34, m34, l46, m46, n34, n46⟩ (Below.refl _ _)
  refine OwesAll.skip (f := 24) ?_;exact OwesAll.nil
 case ends =>
  intro a wx hS hsz hdf hold hdone;simp only [List.getElem?_toArray, List.getElem?_cons_succ, List.getElem?_cons_zero];intro K hK;have HK := Lib.hid hK;clear hK;obtain ⟨xa, xb, xc, xd, dB, q1, q2, q3, q4, q5, q6, q7, q8⟩ : ∃ xa xb xc xd, a.tmps.getD 47 undef = .agg #[.bool false, .slice xa X1.length xc, .slice none 0 0, .slice xb X2.length xd] ∧ Rd wx xa X1 ∧ Rd wx xb X2 ∧ X1.length ≤ xc ∧ xc ≤ maxLen ∧ X2.length ≤ xd ∧ xd ≤ maxLen ∧ (∀ x, xa = some x → w2.heap.size ≤ x.block) ∧ ∀ x, xb = some x → w2.heap.size ≤ x.block := hdone 23 _ 47 rfl (by decide) rfl
  have dR : a.tmps.getD 4 undef = .pointer (some ⟨w.heap.size + 1, 0, none⟩) := hold 4 (unset_of (by kernel_rfl));have hdf' : a.defers = [] := hdf;clear hold hdone hsz hdf;rw [Array.getD_eq_getD_getElem?] at dB dR;have XB := kept X.out hS;have y0 := cl XB 0 rfl;have y1 := cl XB 1 rfl;have y2 := cl XB 2 rfl;have y3 := cl XB 3 rfl;have f0 := Go.Joins.unfrozen_of_block XB 0;have f1 := Go.Joins.unfrozen_of_block XB 1;have f2 := Go.Joins.unfrozen_of_block XB 2;have f3 := Go.Joins.unfrozen_of_block XB 3;rw [if_pos (by rfl)];go_simp;refine HK.out _ _ ?_
  have B9 : Below w.heap.size w ((((wx.setCell ⟨w.heap.size + 1, 0, none⟩ (.bool false)).setCell ⟨w.heap.size + 1, 1, none⟩ (.slice xa X1.length xc)).setCell ⟨w.heap.size + 1, 2, none⟩ (.slice none 0 0)).setCell ⟨w.heap.size + 1, 3, none⟩ (.slice xb X2.length xd)) :=
   ((((chain B2.out hS).setCell (by simp) _).setCell (by simp) _).setCell (by simp) _).setCell (by simp) _
  clear y0 y1 y2 y3 f0 f1 f2 f3 HK K;go_wp2_with fail;have lt1 : w.heap.size + 1 < w2.heap.size := (Array.getElem?_eq_some_iff.1 X.out).1
  have FIN : Hid (NodOuB w.heap.size X1 X2 (.returned (.agg #[.bool false, .slice xa X1.length xc, .slice none 0 0, .slice xb X2.length xd])) ((((wx.setCell ⟨w.heap.size + 1, 0, none⟩ (.bool false)).setCell ⟨w.heap.size + 1, 1, none⟩ (.slice xa X1.length xc)).setCell ⟨w.heap.size + 1, 2, none⟩ (.slice none 0 0)).setCell ⟨w.heap.size + 1, 3, none⟩ (.slice xb X2.length xd))) :=
   Lib.hid ⟨_, rfl, xa, xb, xc, xd, rfl, q1.set4 _ _ _ _ _ (fun x hx => Nat.lt_of_lt_of_le lt1 (q7 x hx)), q2.set4 _ _ _ _ _ (fun x hx => Nat.lt_of_lt_of_le lt1 (q8 x hx)), q3, q4, q5, q6, fun x hx => Nat.le_trans (Nat.le_of_lt lt0) (q7 x hx), fun x hx => Nat.le_trans (Nat.le_of_lt lt0) (q8 x hx)⟩
  have XR : ((((wx.setCell ⟨w.heap.size + 1, 0, none⟩ (.bool false)).setCell ⟨w.heap.size + 1, 1, none⟩ (.slice xa X1.length xc)).setCell ⟨w.heap.size + 1, 2, none⟩ (.slice none 0 0)).setCell ⟨w.heap.size + 1, 3, none⟩ (.slice xb X2.length xd)).heap[w.heap.size + 1]? = some (.cells #[.bool false, .slice xa X1.length xc, .slice none 0 0, .slice xb X2.length xd] 97) := by
   rw [heap_setCell_same _ _ 3 _ _ _ (heap_setCell_same _ _ 2 _ _ _ (heap_setCell_same _ _ 1 _ _ _ (heap_setCell_same _ _ 0 _ _ _ XB)))]
   rfl
  generalize ((((wx.setCell ⟨w.heap.size + 1, 0, none⟩ (.bool false)).setCell ⟨w.heap.size + 1, 1, none⟩ (.slice xa X1.length xc)).setCell ⟨w.heap.size + 1, 2, none⟩ (.slice none 0 0)).setCell ⟨w.heap.size + 1, 3, none⟩ (.slice xb X2.length xd)) = wz at *;have z0 := cl XR 0 rfl;have z1 := cl XR 1 rfl;have z2 := cl XR 2 rfl;have z3 := cl XR 3 rfl;exact bodyPost_ret (v := .agg #[.bool false, .slice xa X1.length xc, .slice none 0 0, .slice xb X2.length xd]) (by simp [results, Tryz.results117, go_sem, dR, z0, z1, z2, z3]) hdf' ⟨FIN.out, B9⟩
end Go.Proofs.YtmomlhiokggfbaaGreatDoor
