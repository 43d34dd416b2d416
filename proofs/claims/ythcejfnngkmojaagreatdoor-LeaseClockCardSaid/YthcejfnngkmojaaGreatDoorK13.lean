/-
 NodePl, NodeDe, NodeDa, NodeEb, TrW, TrV.
-/
import Derived.Test.YthcejfnngkmojaaGreatDoorK03
import Derived.Test.YthcejfnngkmojaaGreatDoorK12
namespace Go.Proofs.YthcejfnngkmojaaGreatDoor
open Go.RowKit
set_option maxRecDepth 20000
set_option maxHeartbeats 12800000
set_option linter.unusedVariables false
set_option linter.unusedSimpArgs false
theorem rising_no (K : List Int) (a : Option Addr) (c : Nat) (w : World) (h : Rd w a (K.map ukey)) (h1 : K.length ≤ 1000) (hs : ¬ ∀ i (h : i + 1 < K.length), K[i] < K[i + 1]) :
  Calls Tryz.prog 218 #[.slice a K.length c] w fun e w' => e = .returned (.bool false) ∧ Below w.heap.size w w' := by
 have HR := Hd h;have HS := Hd hs;obtain ⟨m, hm⟩ : ∃ m, K.length = m := ⟨_, rfl⟩
 rw [hm] at h1 ⊢;clear h hs;go_enter Tryz.func218, Tryz.ntmps218;go_wp2_with fail
 go_loopw [3] (fun i wr => ∃ j q : Nat, j ≤ 1000 ∧ i = .int .i64 ((j : Int) + 1) ∧ wr = w.drewN q ∧ ∀ i (h : i + 1 < K.length), i < j → K[i] < K[i + 1]) (fun i _ => 1002 - (intOf i).toNat)
 case atStart => exact ⟨0, 0, by omega, rfl, rfl, fun i h hi => absurd hi (Nat.not_lt_zero _)⟩
 case round =>
  obtain ⟨j, q, hj, rfl, rfl, hall⟩ := hrel;have HA := Hd hall;clear hall
  by_cases hlt : j + 1 < m
  ·have hji : (j : Int) + 1 < (m : Int) := by omega
   have hji2 : (j : Int) < (m : Int) := by omega
   have hjl : j < (K.map ukey).length := by rw [List.length_map]; omega
   have hjl2 : j + 1 < (K.map ukey).length := by rw [List.length_map]; omega
   obtain ⟨b, off, hab, hb, z1⟩ := HR.out.at j hjl;obtain ⟨b2, off2, hab2, _, z2⟩ := HR.out.at (j + 1) hjl2;rw [hab] at hab2
   obtain ⟨rfl, rfl⟩ : b2 = b ∧ off2 = off := by
    have := Option.some.inj hab2;exact ⟨(congrArg Addr.block this).symm, (congrArg Addr.off this).symm⟩
   subst hab;have e1 : (K.map ukey)[j] = .int .u64 (K[j]'(by omega)) := by rw [List.getElem_map]; rfl
   have e2 : (K.map ukey)[j + 1] = .int .u64 (K[j + 1]'(by omega)) := by rw [List.getElem_map]; rfl
   rw [e1] at z1;rw [e2] at z2
   have HX : Hid (K[j]'(by omega) < K[j + 1]'(by omega) → ∀ i (h : i + 1 < K.length), i < j + 1 → K[i] < K[i + 1]) := Hd (fun hx i h hi => by
    by_cases he : i = j
    ·subst he; exact hx
    ·exact HA.out i h (by omega))
   clear e1 e2 hab2 hb;generalize K[j]'(by omega) = x at *;generalize K[j + 1]'(by omega) = y at *;have hw0 : IntKind.i64.wrap ((j : Int) + 1 - 1) = (j : Int) := by rw [IntKind.wrap_i64]; omega
   have hw1 : IntKind.i64.wrap (j : Int) = (j : Int) := by rw [IntKind.wrap_i64]; omega
   have ht1 : ((j : Int) + 1).toNat = j + 1 := by omega
   by_cases hge : y ≤ x
   ·clear HX HA HS
    go_wp2_with fail
    go_quiet (fail)
    go_wp2_with fail;try rw [Exit.noGoto_ret]
    go_ret;exact ⟨rfl, drewN_below (drewN_below Br _) _⟩
   ·have HY := Hd (HX.out (by omega))
    clear HX HA HS;go_wp2_with fail
    go_quiet (fail)
    go_wp2_with fail;go_roundw
    case rel => exact ⟨j + 1, _, by omega, by go_num, rfl, HY.out⟩
    case measure => simp [intOf]; omega
  ·exact absurd (fun i h => HA.out i h (by omega)) HS.out
theorem rising_any (K : List Int) (a : Option Addr) (c : Nat) (w : World) (h : Rd w a (K.map ukey)) (h1 : K.length ≤ 1000) (v : Bool) (hv : riseB K = v) :
  Calls Tryz.prog 218 #[.slice a K.length c] w fun e w' => e = .returned (.bool v) ∧ Below w.heap.size w w' := by
 cases v with
 | true => exact rising_yes K a c w h h1 ((riseB_iff K).1 hv)
 | false => exact rising_no K a c w h h1 (fun hx => by rw [(riseB_iff K).2 hx] at hv; cases hv)
theorem plain_any (n : Nod) (ak av ac : Option Addr) (ck cv cc : Nat) (w : World) (h : NodR w n ak av ac ck cv cc) (v : Bool) (hpv : Hid ((plainB n && wholeB n) = v)) :
  Calls Tryz.prog 207 #[nodV n ak av ac ck cv cc] w fun e w' => e = .returned (.bool v) ∧ Below w.heap.size w w' := by
 obtain ⟨u, hu⟩ : ∃ u, wholeB n = u := ⟨_, rfl⟩
 obtain ⟨ri, hri⟩ : ∃ ri, riseB n.K = ri := ⟨_, rfl⟩
 have WH := Hd (fun w => whole_any n ak av ac ck cv cc w h.ok u hu);have RI := Hd (fun w' (hb : Below w.heap.size w w') => rising_any n.K ak ck w' (h.k.below hb) h.ok.k1 ri hri)
 have FV : Hid (∀ i (h : i < n.V.length), ¬ n.V[i].size ≤ 40 → v = false) := Hd (fun i h hx => by
  rw [← hpv.out, Bool.and_eq_false_iff]; left
  cases hp : plainB n with
  | false => rfl
  | true => exact absurd ((plainB_iff n).1 hp).2.1 (fun h2 => hx (h2 _ (List.getElem_mem h))))
 have FC : Hid (∀ i (h : i < n.C.length), ¬ (2 ≤ n.C[i] ∧ n.C[i] < 640) → v = false) := Hd (fun i h hx => by
  rw [← hpv.out, Bool.and_eq_false_iff]; left
  cases hp : plainB n with
  | false => rfl
  | true => exact absurd ((plainB_iff n).1 hp).2.2 (fun h2 => hx (h2 _ (List.getElem_mem h))))
 have FE : Hid ((∀ i (h : i < n.V.length), n.V[i].size ≤ 40) → (∀ i (h : i < n.C.length), 2 ≤ n.C[i] ∧ n.C[i] < 640) → v = (u && ri)) := Hd (fun h1 h2 => by
  have a1 : n.V.all (fun v => decide (v.size ≤ 40)) = true := by
   rw [List.all_eq_true]; intro x hx;obtain ⟨i, hi, rfl⟩ := List.getElem_of_mem hx;exact decide_eq_true (h1 i hi)
  have a2 : n.C.all (fun c => decide (2 ≤ c ∧ c < 640)) = true := by
   rw [List.all_eq_true]; intro x hx;obtain ⟨i, hi, rfl⟩ := List.getElem_of_mem hx;exact decide_eq_true (h2 i hi)
  rw [← hpv.out, hu];unfold plainB;rw [a1, a2, hri]
  cases u <;> cases ri <;> rfl)
 have hv1 := h.ok.v1;have hc1 := h.ok.c1;have HV0 := h.v;have HC0 := h.c;clear h hpv hu hri;obtain ⟨lf, K, V, C⟩ := n;unfold nodV at *
 dsimp only at WH RI hv1 hc1 HV0 HC0 FV FC FE ⊢
 obtain ⟨lk, hlk⟩ : ∃ lk, K.length = lk := ⟨_, rfl⟩
 obtain ⟨lv, hlv⟩ : ∃ lv, V.length = lv := ⟨_, rfl⟩
 obtain ⟨lc, hlc⟩ : ∃ lc, C.length = lc := ⟨_, rfl⟩
 rw [hlk, hlv, hlc] at WH ⊢;rw [hlk] at RI;rw [hlv] at hv1;rw [hlc] at hc1;obtain ⟨W, hW⟩ : ∃ W, w.alloc (.cells #[.bool lf, .slice ak lk ck, .slice av lv cv, .slice ac lc cc] 181) = W := ⟨_, rfl⟩
 have bel : Below w.heap.size w W := by rw [← hW]; exact below_made _ _
 have XA : W.heap[w.heap.size]? = some (.cells #[.bool lf, .slice ak lk ck, .slice av lv cv, .slice ac lc cc] 181) := by rw [← hW]; exact heap_alloc_new w _
 have x0 := cl XA 0 rfl;have x1 := cl XA 1 rfl;have x2 := cl XA 2 rfl;have x3 := cl XA 3 rfl;have HV := Hd (HV0.below bel);have HC := Hd (HC0.below bel);have BEL := Hd bel;have XH := Hd XA;have HW := Hd hW;clear bel XA hW HV0 HC0;go_enter Tryz.func207, Tryz.ntmps207;go_upto_region 1 with fail
 rw [HW.out];go_wp2_with fail
 go_loop [10] (fun i => ∃ j : Nat, j ≤ lv ∧ i = .int .i64 (j : Int) ∧ ∀ i (h : i < V.length), i < j → V[i].size ≤ 40) (fun i => lv + 1 - (intOf i).toNat)
 case atStart => exact ⟨0, Nat.zero_le _, rfl, fun i h hi => absurd hi (Nat.not_lt_zero _)⟩
 case round =>
  obtain ⟨j, hj, rfl, hall⟩ := hrel;have HA := Hd hall;clear hall
  by_cases hlt : j < lv
  ·have hji : (j : Int) < (lv : Int) := by omega
   have hjl : j < (V.map Value.string).length := by rw [List.length_map]; omega
   obtain ⟨b, off, rfl, hb, z⟩ := HV.out.at j hjl;have e1 : (V.map Value.string)[j] = .string (V[j]'(by omega)) := by rw [List.getElem_map]
   rw [e1] at z
   have HX : Hid ((V[j]'(by omega)).size ≤ 40 → ∀ i (h : i < V.length), i < j + 1 → V[i].size ≤ 40) := Hd (fun hx i h hi => by
    by_cases he : i = j
    ·subst he; exact hx
    ·exact HA.out i h (by omega))
   have FVJ := Hd (FV.out j (by omega));clear e1 hb;generalize V[j]'(by omega) = x at *
   by_cases hz2 : (40 : Int) < (x.size : Int)
   ·have hvf : v = false := FVJ.out (by omega)
    subst hvf;clear HX HA FV FC FE FVJ;go_wp2_with fail;try rw [Exit.noGoto_ret]
    go_ret;exact ⟨rfl, BEL.out⟩
   ·have HY := Hd (HX.out (by omega))
    clear HX FVJ;go_wp2_with fail
    go_round
    case rel => exact ⟨j + 1, by omega, by go_num, HY.out⟩
    case measure => simp [intOf]; omega
  ·obtain rfl : j = lv := by omega
   have hji : ¬ (j : Int) < (j : Int) := by omega
   go_wp2_with fail
   go_loop [21] (fun i => ∃ k : Nat, k ≤ lc ∧ i = .int .i64 (k : Int) ∧ ∀ i (h : i < C.length), i < k → 2 ≤ C[i] ∧ C[i] < 640) (fun i => lc + 1 - (intOf i).toNat)
   case atStart => exact ⟨0, Nat.zero_le _, rfl, fun i h hi => absurd hi (Nat.not_lt_zero _)⟩
   case round =>
    obtain ⟨k, hk, rfl, hall⟩ := hrel;have HAC := Hd hall;clear hall
    by_cases hlt2 : k < lc
    ·have hki : (k : Int) < (lc : Int) := by omega
     have hkl : k < (C.map ikid).length := by rw [List.length_map]; omega
     obtain ⟨b, off, rfl, hb, z⟩ := HC.out.at k hkl;have e1 : (C.map ikid)[k] = .int .i64 (C[k]'(by omega)) := by rw [List.getElem_map]; rfl
     rw [e1] at z
     have HX : Hid ((2 ≤ C[k]'(by omega) ∧ C[k]'(by omega) < 640) → ∀ i (h : i < C.length), i < k + 1 → 2 ≤ C[i] ∧ C[i] < 640) := Hd (fun hx i h hi => by
      by_cases he : i = k
      ·subst he; exact hx
      ·exact HAC.out i h (by omega))
     have FCJ := Hd (FC.out k (by omega));clear e1 hb;generalize C[k]'(by omega) = x at *
     by_cases hz1 : x < 2
     ·have hvf : v = false := FCJ.out (by omega)
      subst hvf;clear HX HA HAC FV FC FE FCJ;go_wp2_with fail;try rw [Exit.noGoto_ret]
      go_ret;exact ⟨rfl, BEL.out⟩
     ·by_cases hz2 : 640 ≤ x
      ·have hvf : v = false := FCJ.out (by omega)
       subst hvf;clear HX HA HAC FV FC FE FCJ;go_wp2_with fail;try rw [Exit.noGoto_ret]
       go_ret;exact ⟨rfl, BEL.out⟩
      ·have HY := Hd (HX.out (by omega))
       clear HX FCJ;go_wp2_with fail
       go_round
       case rel => exact ⟨k + 1, by omega, by go_num, HY.out⟩
       case measure => simp [intOf]; omega
    ·obtain rfl : k = lc := by omega
     have hki : ¬ (k : Int) < (k : Int) := by omega
     have hvE := FE.out (fun i h => HA.out i h (by omega)) (fun i h => HAC.out i h (by omega));subst hvE;clear FE FV FC HA HAC
     cases u
     ·go_wp2_with fail
      refine (WH.out _).mono ?_;rintro e w1 ⟨rfl, b1⟩;go_wp2_with fail;go_ret;exact ⟨rfl, chain BEL.out b1⟩
     ·go_wp2_with fail
      refine (WH.out _).mono ?_;rintro e w1 ⟨rfl, b1⟩;have B1 := Hd (chain BEL.out b1)
      have y1 : w1.cell? ⟨w.heap.size, 1, none⟩ = some (.slice ak lk ck) := by
       have X1 : w1.heap[w.heap.size]? = _ := (b1.block _ (Array.getElem?_eq_some_iff.1 XH.out).1).trans XH.out;rw [Go.Joins.cell_of_block X1]; rfl
      clear b1;go_wp2_with fail;refine (RI.out _ B1.out).mono ?_;rintro e w2 ⟨rfl, b2⟩;go_wp2_with fail;go_ret;exact ⟨ret_bool (by simp), chain B1.out b2⟩
theorem ndRight_any (n : Nod) (ak av ac : Option Addr) (ck cv cc : Nat) (w : World) (h : NodR w n ak av ac ck cv cc) (v : Bool) (hv : Hid (rightN n = v)) :
  Calls Tryz.prog 186 #[nodV n ak av ac ck cv cc] w fun e w' => e = .returned (.bool v) ∧ Below w.heap.size w w' := by
 obtain ⟨z, hzz⟩ : ∃ z, sizeN n = z := ⟨_, rfl⟩
 obtain ⟨pw, hpw⟩ : ∃ pw, (plainB n && wholeB n) = pw := ⟨_, rfl⟩
 have PL := Hd (fun w' (hb : Below w.heap.size w w') => plain_any n ak av ac ck cv cc w' (h.below hb) pw (Hd hpw));have SZ := Hd (fun (hp : pw = true) w' (hb : Below w.heap.size w w') => size_is n ak av ac ck cv cc w' (h.below hb) z (Hd hzz) (by rw [hp, Bool.and_eq_true] at hpw; exact hpw.2));have hv' : (pw && (!n.leaf || decide (0 < n.K.length)) && decide (z ≤ 240)) = v := by rw [← hv.out, ← hpw, ← hzz]; rfl
 clear h hzz hpw hv;obtain ⟨lf, K, V, C⟩ := n;unfold nodV at *
 dsimp only at PL SZ hv' ⊢
 generalize K.length = lk at *;generalize V.length = lv at *;generalize C.length = lc at *;have b0 : Below w.heap.size w (w.alloc (.cells #[.bool lf, .slice ak lk ck, .slice av lv cv, .slice ac lc cc] 181)) := below_made _ _;have B0 := Hd b0;subst hv';clear b0
 cases pw
 ·go_enter Tryz.func186, Tryz.ntmps186
  go_wp2_with fail;refine (PL.out _ B0.out).mono ?_;rintro e w1 ⟨rfl, b1⟩;have B1 := Hd (box_below b1);clear b1;go_wp2_with fail;go_ret;exact ⟨rfl, B1.out⟩
 ·by_cases h0 : lf = true ∧ ¬ 0 < lk
  ·obtain ⟨rfl, h0⟩ := h0
   have h0i : ¬ (0 : Int) < (lk : Int) := by omega
   have h0d : decide (0 < lk) = false := by simpa using h0
   go_enter Tryz.func186, Tryz.ntmps186;go_wp2_with fail;refine (PL.out _ B0.out).mono ?_;rintro e w1 ⟨rfl, b1⟩;have X1 := box_kept b1;have B1 := Hd (box_below b1);have y0 := cl X1 0 rfl;have y1 := cl X1 1 rfl;clear X1 b1;go_wp2_with fail;go_ret;exact ⟨ret_bool (by simp [h0d]), B1.out⟩
  ·have hmid : (!lf || decide (0 < lk)) = true := by cases lf <;> simp at h0 ⊢ <;> omega
   have hend : (true && (!lf || decide (0 < lk)) && decide (z ≤ 240)) = decide ((z : Int) ≤ 240) := by rw [hmid]; simp; omega
   rw [hend];have hleaf : lf = true → (0 : Int) < (lk : Int) := by intro h; subst h; simp at h0; omega
   clear hmid hend h0;obtain ⟨hl0, hl1⟩ : True ∧ True := ⟨trivial, trivial⟩
   cases lf
   ·clear hleaf hl0 hl1
    go_enter Tryz.func186, Tryz.ntmps186;go_wp2_with fail;refine (PL.out _ B0.out).mono ?_;rintro e w1 ⟨rfl, b1⟩;have X1 := box_kept b1;have B1 := Hd (box_below b1);have y0 := cl X1 0 rfl;have y1 := cl X1 1 rfl;have y2 := cl X1 2 rfl;have y3 := cl X1 3 rfl;clear X1 b1;go_wp2_with fail;refine (SZ.out trivial _ B1.out).mono ?_;rintro e w2 ⟨rfl, b2⟩;go_wp2_with fail;go_ret;exact ⟨rfl, chain B1.out b2⟩
   ·have hli := hleaf rfl
    clear hleaf hl0 hl1;go_enter Tryz.func186, Tryz.ntmps186;go_wp2_with fail;refine (PL.out _ B0.out).mono ?_;rintro e w1 ⟨rfl, b1⟩;have X1 := box_kept b1;have B1 := Hd (box_below b1);have y0 := cl X1 0 rfl;have y1 := cl X1 1 rfl;have y2 := cl X1 2 rfl;have y3 := cl X1 3 rfl;clear X1 b1;go_wp2_with fail;refine (SZ.out trivial _ B1.out).mono ?_;rintro e w2 ⟨rfl, b2⟩;go_wp2_with fail;go_ret;exact ⟨rfl, chain B1.out b2⟩
def DecBack (lo : Nat) (n : Nod) (e : Ending) (w' : World) : Prop := ∃ ak av ac ck cv cc, e = .returned (.tuple #[nodV n ak av ac ck cv cc, .int .i64 0]) ∧ NodR w' n ak av ac ck cv cc ∧ (∀ x, ak = some x → lo ≤ x.block) ∧ (∀ x, av = some x → lo ≤ x.block) ∧ ∀ x, ac = some x → lo ≤ x.block
def DecBackU (lo : Nat) (n : Nod) (e : Ending) (w' : World) : Prop := ∃ ak av ac ck cv cc, e = .returned (.tuple #[nodV n ak av ac ck cv cc, .int .i64 0]) ∧ NodR w' n ak av ac ck cv cc ∧ (∀ x, ak = some x → lo ≤ x.block) ∧ (∀ x, av = some x → lo ≤ x.block) ∧ (∀ x, ac = some x → lo ≤ x.block) ∧ Unf w' ak ∧ Unf w' ac
def DecRes (lo : Nat) (o : Option Nod) (e : Ending) (w' : World) : Prop :=
 match o with
 | some n => DecBack lo n e w'
 | none => e = .returned (.tuple #[.agg #[.bool false, .slice none 0 0, .slice none 0 0, .slice none 0 0], .int .i64 2])
def DecResU (lo : Nat) (o : Option Nod) (e : Ending) (w' : World) : Prop :=
 match o with
 | some n => DecBackU lo n e w'
 | none => e = .returned (.tuple #[.agg #[.bool false, .slice none 0 0, .slice none 0 0, .slice none 0 0], .int .i64 2])
theorem first_not (x : ByteArray) (b : UInt8) (h : x ≠ ⟨#[b]⟩) : (x.toList == [b]) = false := by
 rw [beq_eq_false_iff_ne];intro e;apply h;apply eq_of_data;rw [← toList_data, e]
theorem ext_size1 (s : ByteArray) (h : 1 ≤ s.size) : (s.extract 1 s.size).size + 1 = s.size := by rw [ByteArray.size_extract]; omega
theorem decode_size (s : ByteArray) (w : World) (h : s.size = 0 ∨ 240 < s.size) :
  Calls Tryz.prog 162 #[.string s] w fun e w' => DecResU w.heap.size none e w' ∧ Below w.heap.size w w' := by
 have X0 : (w.alloc (.cells #[.bool false, .slice none 0 0, .slice none 0 0, .slice none 0 0] 181)).heap[w.heap.size]? = some (.cells #[.bool false, .slice none 0 0, .slice none 0 0, .slice none 0 0] 181) := heap_alloc_new _ _;have B0 := Hd ((Below.refl w.heap.size w).alloc (Nat.le_refl _) (.cells #[.bool false, .slice none 0 0, .slice none 0 0, .slice none 0 0] 181))
 rcases h with h | h
 ·have e0 : s = ⟨#[]⟩ := empty_of_size h
  subst e0;go_enter Tryz.func162, Tryz.ntmps162;have FIN : Hid (DecResU w.heap.size none (.returned (.tuple #[.agg #[.bool false, .slice none 0 0, .slice none 0 0, .slice none 0 0], .int .i64 2])) (w.alloc (.cells #[.bool false, .slice none 0 0, .slice none 0 0, .slice none 0 0] 181)) ∧ Below w.heap.size w (w.alloc (.cells #[.bool false, .slice none 0 0, .slice none 0 0, .slice none 0 0] 181))) := Hd ⟨rfl, B0.out⟩;clear X0;go_wp2_with fail
  exact bodyPost_ret (v := .tuple #[.agg #[.bool false, .slice none 0 0, .slice none 0 0, .slice none 0 0], .int .i64 2]) (by simp [results, Tryz.results162, go_sem]) rfl FIN.out
 ·have l1 : ¬ s = ByteArray.empty := fun e => by rw [e] at h; exact absurd h (by decide)
  have l2 : (240 : Int) < (s.size : Int) := by omega
  go_enter Tryz.func162, Tryz.ntmps162;have FIN : Hid (DecResU w.heap.size none (.returned (.tuple #[.agg #[.bool false, .slice none 0 0, .slice none 0 0, .slice none 0 0], .int .i64 2])) (w.alloc (.cells #[.bool false, .slice none 0 0, .slice none 0 0, .slice none 0 0] 181)) ∧ Below w.heap.size w (w.alloc (.cells #[.bool false, .slice none 0 0, .slice none 0 0, .slice none 0 0] 181))) := Hd ⟨rfl, B0.out⟩;clear X0;go_wp2_with fail
  exact bodyPost_ret (v := .tuple #[.agg #[.bool false, .slice none 0 0, .slice none 0 0, .slice none 0 0], .int .i64 2]) (by simp [results, Tryz.results162, go_sem]) rfl FIN.out
theorem decode_leafB (s r0 : ByteArray) (w : World) (h1 : 1 ≤ s.size) (h2 : s.size ≤ 240) (hb : s.extract 0 1 = ⟨#[1]⟩) (hr : s.extract 1 s.size = r0) (n : Nod) (bad v : Bool) (res : Option Nod) (hres : res = if (!bad && v) = true then some n else none) (hv : Hid (rightN n = v))
  (RDR : ∀ w3, RDb w3 (w.heap.size + 1) r0 false → Calls Tryz.prog 184 #[.pointer (some ⟨w.heap.size + 1, 0, none⟩)] w3 fun e w' => NodBackU w3.heap.size n e w' ∧ RDb w' (w.heap.size + 1) ⟨#[]⟩ bad ∧ Frm (fun k => k = w.heap.size + 1) w3 w') :
  Calls Tryz.prog 162 #[.string s] w fun e w' => DecResU w.heap.size res e w' ∧ Below w.heap.size w w' := by
 have RG := Hd (fun ak av ac ck cv cc w' (h : NodR w' n ak av ac ck cv cc) => ndRight_any n ak av ac ck cv cc w' h v hv);have z1 : (w.alloc (.cells #[.bool false, .slice none 0 0, .slice none 0 0, .slice none 0 0] 181)).heap.size = w.heap.size + 1 := by simp
 have z2 : ((w.alloc (.cells #[.bool false, .slice none 0 0, .slice none 0 0, .slice none 0 0] 181)).alloc (.cells #[.string r0, .bool false] 260)).heap.size = w.heap.size + 1 + 1 := by simp
 obtain ⟨w3, hw3⟩ : ∃ w3, ((w.alloc (.cells #[.bool false, .slice none 0 0, .slice none 0 0, .slice none 0 0] 181)).alloc (.cells #[.string r0, .bool false] 260)).alloc (.cells #[.bool false, .slice none 0 0, .slice none 0 0, .slice none 0 0] 181) = w3 := ⟨_, rfl⟩
 have RD0 : RDb w3 (w.heap.size + 1) r0 false := by
  rw [← hw3];unfold RDb;rw [heap_alloc_old _ _ (by rw [z2]; omega), ← z1];exact heap_alloc_new _ _
 have X0 : w3.heap[w.heap.size]? = some (.cells #[.bool false, .slice none 0 0, .slice none 0 0, .slice none 0 0] 181) := by
  rw [← hw3, heap_alloc_old _ _ (by rw [z2]; omega), heap_alloc_old _ _ (by rw [z1]; omega)];exact heap_alloc_new _ _
 have X2 : w3.heap[w.heap.size + 1 + 1]? = some (.cells #[.bool false, .slice none 0 0, .slice none 0 0, .slice none 0 0] 181) := by
  rw [← hw3, ← z2];exact heap_alloc_new _ _
 have z3 : w3.heap.size = w.heap.size + 3 := by rw [← hw3]; simp
 have B3 : Below w.heap.size w w3 := by
  rw [← hw3];exact ((Br.alloc (Nat.le_refl _) _).alloc (by simp) _).alloc (by rw [z2]; omega) _
 have LEAF := Hd (RDR w3 RD0);have H0 := Hd X0;have H2 := Hd X2;have HB3 := Hd B3;have HW3 := Hd hw3;have HZ3 := Hd z3;have HRES := Hd hres;have l1 : ¬ s = ByteArray.empty := fun e => by rw [e] at h1; exact absurd h1 (by decide)
 have l2 : ¬ (240 : Int) < (s.size : Int) := by omega
 have l3 : (1 : Int) ≤ (s.size : Int) := by omega
 clear z1 z2 RD0 X0 X2 z3 B3 hw3 h1 h2 RDR hres hv;go_enter Tryz.func162, Tryz.ntmps162;go_wp2_with fail;rw [HW3.out];refine LEAF.out.mono ?_;rintro e w1 ⟨⟨ak, av, ac, ck, cv, cc, rfl, hR, q1, q2, q3, u1, u2⟩, hrd, hfr⟩;have HR := Hd hR;have Q1 := Hd q1;have Q2 := Hd q2;have Q3 := Hd q3;have U1 := Hd ((((u1.setCell ⟨w.heap.size + 1 + 1, 0, none⟩ (.bool n.leaf)).setCell ⟨w.heap.size + 1 + 1, 1, none⟩ (.slice ak n.K.length ck)).setCell ⟨w.heap.size + 1 + 1, 2, none⟩ (.slice av n.V.length cv)).setCell ⟨w.heap.size + 1 + 1, 3, none⟩ (.slice ac n.C.length cc))
 have U2 := Hd ((((u2.setCell ⟨w.heap.size + 1 + 1, 0, none⟩ (.bool n.leaf)).setCell ⟨w.heap.size + 1 + 1, 1, none⟩ (.slice ak n.K.length ck)).setCell ⟨w.heap.size + 1 + 1, 2, none⟩ (.slice av n.V.length cv)).setCell ⟨w.heap.size + 1 + 1, 3, none⟩ (.slice ac n.C.length cc));have z3 := HZ3.out;have X1 : w1.heap[w.heap.size]? = some (.cells #[.bool false, .slice none 0 0, .slice none 0 0, .slice none 0 0] 181) := (hfr.block _ (by omega) (by show ¬ w.heap.size = w.heap.size + 1; omega)).trans H0.out
 have XB : w1.heap[w.heap.size + 1 + 1]? = some (.cells #[.bool false, .slice none 0 0, .slice none 0 0, .slice none 0 0] 181) := (hfr.block _ (by omega) (by show ¬ w.heap.size + 1 + 1 = w.heap.size + 1; omega)).trans H2.out;have HB1 : Hid (Below w.heap.size w w1) := Hd (HB3.out.trans (hfr.below (fun i hi => by have hi : i = w.heap.size + 1 := hi; omega) (by omega)));have y0 := cl XB 0 rfl;have y1 := cl XB 1 rfl;have y2 := cl XB 2 rfl;have y3 := cl XB 3 rfl;have f0 := ufb XB 0;have f1 := ufb XB 1;have f2 := ufb XB 2;have f3 := ufb XB 3
 have XW : ((((w1.setCell ⟨w.heap.size + 1 + 1, 0, none⟩ (.bool n.leaf)).setCell ⟨w.heap.size + 1 + 1, 1, none⟩ (.slice ak n.K.length ck)).setCell ⟨w.heap.size + 1 + 1, 2, none⟩ (.slice av n.V.length cv)).setCell ⟨w.heap.size + 1 + 1, 3, none⟩ (.slice ac n.C.length cc)).heap[w.heap.size + 1 + 1]? = some (.cells #[.bool n.leaf, .slice ak n.K.length ck, .slice av n.V.length cv, .slice ac n.C.length cc] 181) := by
  rw [heap_setCell_same _ _ 3 _ _ _ (heap_setCell_same _ _ 2 _ _ _ (heap_setCell_same _ _ 1 _ _ _ (heap_setCell_same _ _ 0 _ _ _ XB)))]
  rfl
 have keep : ∀ q, ¬ q = w.heap.size + 1 + 1 → ((((w1.setCell ⟨w.heap.size + 1 + 1, 0, none⟩ (.bool n.leaf)).setCell ⟨w.heap.size + 1 + 1, 1, none⟩ (.slice ak n.K.length ck)).setCell ⟨w.heap.size + 1 + 1, 2, none⟩ (.slice av n.V.length cv)).setCell ⟨w.heap.size + 1 + 1, 3, none⟩ (.slice ac n.C.length cc)).heap[q]? = w1.heap[q]? := fun q hne => by
  have hne' : ∀ i, q ≠ (⟨w.heap.size + 1 + 1, i, none⟩ : Addr).block := fun i => hne
  rw [Below.heap_setCell _ _ _ _ (hne' 3), Below.heap_setCell _ _ _ _ (hne' 2), Below.heap_setCell _ _ _ _ (hne' 1), Below.heap_setCell _ _ _ _ (hne' 0)]
 have RW := (keep (w.heap.size + 1) (by omega)).trans hrd;have ZW := (keep w.heap.size (by omega)).trans X1;have HRW := Hd (hR.set4 (w.heap.size + 1 + 1) (.bool n.leaf) (.slice ak n.K.length ck) (.slice av n.V.length cv) (.slice ac n.C.length cc) (fun x hx => by have := q1 x hx; omega) (fun x hx => by have := q2 x hx; omega) (fun x hx => by have := q3 x hx; omega))
 have BW : Hid (Below w.heap.size w ((((w1.setCell ⟨w.heap.size + 1 + 1, 0, none⟩ (.bool n.leaf)).setCell ⟨w.heap.size + 1 + 1, 1, none⟩ (.slice ak n.K.length ck)).setCell ⟨w.heap.size + 1 + 1, 2, none⟩ (.slice av n.V.length cv)).setCell ⟨w.heap.size + 1 + 1, 3, none⟩ (.slice ac n.C.length cc))) := Hd (((((HB1.out).setCell (by show _ ≤ w.heap.size + 1 + 1; omega) _).setCell (by show _ ≤ w.heap.size + 1 + 1; omega) _).setCell (by show _ ≤ w.heap.size + 1 + 1; omega) _).setCell (by show _ ≤ w.heap.size + 1 + 1; omega) _);simp only [nodV];clear hR q1 q2 q3 u1 u2 hrd hfr X1 XB keep
 go_upto_region 11 with fail
 obtain ⟨wb, hwb⟩ : ∃ wb, ((((w1.setCell ⟨w.heap.size + 1 + 1, 0, none⟩ (.bool n.leaf)).setCell ⟨w.heap.size + 1 + 1, 1, none⟩ (.slice ak n.K.length ck)).setCell ⟨w.heap.size + 1 + 1, 2, none⟩ (.slice av n.V.length cv)).setCell ⟨w.heap.size + 1 + 1, 3, none⟩ (.slice ac n.C.length cc)) = wb := ⟨_, rfl⟩
 rw [hwb] at XW RW ZW HRW BW U1 U2 ⊢;have XWH := Hd XW;have ZWH := Hd ZW;have cR := cl RW 1 rfl;have c0 := cl XW 0 rfl;have c1 := cl XW 1 rfl;have c2 := cl XW 2 rfl;have c3 := cl XW 3 rfl;clear XW RW z3 hwb y0 y1 y2 y3 f0 f1 f2 f3;have hres := HRES.out
 cases bad
 ·go_wp2_with fail
  refine (RG.out _ _ _ _ _ _ _ HRW.out).mono ?_;rintro e w2 ⟨rfl, b2⟩;have XB2 := kept XWH.out b2;have XZ2 := kept ZWH.out b2;have hbw := Hd (chain BW.out b2);have HRW2 := Hd (HRW.out.below b2);have U12 := Hd (U1.out.below b2);have U22 := Hd (U2.out.below b2);have d0 := cl XB2 0 rfl;have d1 := cl XB2 1 rfl;have d2 := cl XB2 2 rfl;have d3 := cl XB2 3 rfl;clear b2 cR c0 c1 c2 c3 XB2 HRW BW
  cases v
  ·rw [if_neg (by decide)] at hres
   subst hres;have g0 := cl XZ2 0 rfl;have g1 := cl XZ2 1 rfl;have g2 := cl XZ2 2 rfl;have g3 := cl XZ2 3 rfl;have k0 := ufb XZ2 0;have k1 := ufb XZ2 1;have k2 := ufb XZ2 2;have k3 := ufb XZ2 3
   have XR : ((((w2.setCell ⟨w.heap.size, 0, none⟩ (.bool false)).setCell ⟨w.heap.size, 1, none⟩ (.slice none 0 0)).setCell ⟨w.heap.size, 2, none⟩ (.slice none 0 0)).setCell ⟨w.heap.size, 3, none⟩ (.slice none 0 0)).heap[w.heap.size]? = some (.cells #[.bool false, .slice none 0 0, .slice none 0 0, .slice none 0 0] 181) := by
    rw [heap_setCell_same _ _ 3 _ _ _ (heap_setCell_same _ _ 2 _ _ _ (heap_setCell_same _ _ 1 _ _ _ (heap_setCell_same _ _ 0 _ _ _ XZ2)))]
    rfl
   have Z0 : Hid (((((w2.setCell ⟨w.heap.size, 0, none⟩ (.bool false)).setCell ⟨w.heap.size, 1, none⟩ (.slice none 0 0)).setCell ⟨w.heap.size, 2, none⟩ (.slice none 0 0)).setCell ⟨w.heap.size, 3, none⟩ (.slice none 0 0)).cell? ⟨w.heap.size, 0, none⟩ = some (.bool false)) := Hd (by rw [Go.Joins.cell_of_block XR]; rfl)
   have Z1 : Hid (((((w2.setCell ⟨w.heap.size, 0, none⟩ (.bool false)).setCell ⟨w.heap.size, 1, none⟩ (.slice none 0 0)).setCell ⟨w.heap.size, 2, none⟩ (.slice none 0 0)).setCell ⟨w.heap.size, 3, none⟩ (.slice none 0 0)).cell? ⟨w.heap.size, 1, none⟩ = some (.slice none 0 0)) := Hd (by rw [Go.Joins.cell_of_block XR]; rfl)
   have Z2 : Hid (((((w2.setCell ⟨w.heap.size, 0, none⟩ (.bool false)).setCell ⟨w.heap.size, 1, none⟩ (.slice none 0 0)).setCell ⟨w.heap.size, 2, none⟩ (.slice none 0 0)).setCell ⟨w.heap.size, 3, none⟩ (.slice none 0 0)).cell? ⟨w.heap.size, 2, none⟩ = some (.slice none 0 0)) := Hd (by rw [Go.Joins.cell_of_block XR]; rfl)
   have Z3 : Hid (((((w2.setCell ⟨w.heap.size, 0, none⟩ (.bool false)).setCell ⟨w.heap.size, 1, none⟩ (.slice none 0 0)).setCell ⟨w.heap.size, 2, none⟩ (.slice none 0 0)).setCell ⟨w.heap.size, 3, none⟩ (.slice none 0 0)).cell? ⟨w.heap.size, 3, none⟩ = some (.slice none 0 0)) := Hd (by rw [Go.Joins.cell_of_block XR]; rfl)
   have FIN : Hid (DecResU w.heap.size none (.returned (.tuple #[.agg #[.bool false, .slice none 0 0, .slice none 0 0, .slice none 0 0], .int .i64 2])) ((((w2.setCell ⟨w.heap.size, 0, none⟩ (.bool false)).setCell ⟨w.heap.size, 1, none⟩ (.slice none 0 0)).setCell ⟨w.heap.size, 2, none⟩ (.slice none 0 0)).setCell ⟨w.heap.size, 3, none⟩ (.slice none 0 0)) ∧ Below w.heap.size w ((((w2.setCell ⟨w.heap.size, 0, none⟩ (.bool false)).setCell ⟨w.heap.size, 1, none⟩ (.slice none 0 0)).setCell ⟨w.heap.size, 2, none⟩ (.slice none 0 0)).setCell ⟨w.heap.size, 3, none⟩ (.slice none 0 0))) := Hd ⟨rfl, ((((hbw.out).setCell (Nat.le_refl _) _).setCell (Nat.le_refl _) _).setCell (Nat.le_refl _) _).setCell (Nat.le_refl _) _⟩
   clear XR;go_wp2_with fail;exact bodyPost_ret (v := .tuple #[.agg #[.bool false, .slice none 0 0, .slice none 0 0, .slice none 0 0], .int .i64 2]) (by simp [results, Tryz.results162, go_sem, Z0.out, Z1.out, Z2.out, Z3.out]) rfl FIN.out
  ·rw [if_pos (by decide)] at hres
   subst hres;have g0 := cl XZ2 0 rfl;have g1 := cl XZ2 1 rfl;have g2 := cl XZ2 2 rfl;have g3 := cl XZ2 3 rfl;have k0 := ufb XZ2 0;have k1 := ufb XZ2 1;have k2 := ufb XZ2 2;have k3 := ufb XZ2 3
   have XR : ((((w2.setCell ⟨w.heap.size, 0, none⟩ (.bool n.leaf)).setCell ⟨w.heap.size, 1, none⟩ (.slice ak n.K.length ck)).setCell ⟨w.heap.size, 2, none⟩ (.slice av n.V.length cv)).setCell ⟨w.heap.size, 3, none⟩ (.slice ac n.C.length cc)).heap[w.heap.size]? = some (.cells #[.bool n.leaf, .slice ak n.K.length ck, .slice av n.V.length cv, .slice ac n.C.length cc] 181) := by
    rw [heap_setCell_same _ _ 3 _ _ _ (heap_setCell_same _ _ 2 _ _ _ (heap_setCell_same _ _ 1 _ _ _ (heap_setCell_same _ _ 0 _ _ _ XZ2)))]
    rfl
   have Z0 : Hid (((((w2.setCell ⟨w.heap.size, 0, none⟩ (.bool n.leaf)).setCell ⟨w.heap.size, 1, none⟩ (.slice ak n.K.length ck)).setCell ⟨w.heap.size, 2, none⟩ (.slice av n.V.length cv)).setCell ⟨w.heap.size, 3, none⟩ (.slice ac n.C.length cc)).cell? ⟨w.heap.size, 0, none⟩ = some (.bool n.leaf)) := Hd (by rw [Go.Joins.cell_of_block XR]; rfl)
   have Z1 : Hid (((((w2.setCell ⟨w.heap.size, 0, none⟩ (.bool n.leaf)).setCell ⟨w.heap.size, 1, none⟩ (.slice ak n.K.length ck)).setCell ⟨w.heap.size, 2, none⟩ (.slice av n.V.length cv)).setCell ⟨w.heap.size, 3, none⟩ (.slice ac n.C.length cc)).cell? ⟨w.heap.size, 1, none⟩ = some (.slice ak n.K.length ck)) := Hd (by rw [Go.Joins.cell_of_block XR]; rfl)
   have Z2 : Hid (((((w2.setCell ⟨w.heap.size, 0, none⟩ (.bool n.leaf)).setCell ⟨w.heap.size, 1, none⟩ (.slice ak n.K.length ck)).setCell ⟨w.heap.size, 2, none⟩ (.slice av n.V.length cv)).setCell ⟨w.heap.size, 3, none⟩ (.slice ac n.C.length cc)).cell? ⟨w.heap.size, 2, none⟩ = some (.slice av n.V.length cv)) := Hd (by rw [Go.Joins.cell_of_block XR]; rfl)
   have Z3 : Hid (((((w2.setCell ⟨w.heap.size, 0, none⟩ (.bool n.leaf)).setCell ⟨w.heap.size, 1, none⟩ (.slice ak n.K.length ck)).setCell ⟨w.heap.size, 2, none⟩ (.slice av n.V.length cv)).setCell ⟨w.heap.size, 3, none⟩ (.slice ac n.C.length cc)).cell? ⟨w.heap.size, 3, none⟩ = some (.slice ac n.C.length cc)) := Hd (by rw [Go.Joins.cell_of_block XR]; rfl)
   have FIN : Hid (DecResU w.heap.size (some n) (.returned (.tuple #[.agg #[.bool n.leaf, .slice ak n.K.length ck, .slice av n.V.length cv, .slice ac n.C.length cc], .int .i64 0])) ((((w2.setCell ⟨w.heap.size, 0, none⟩ (.bool n.leaf)).setCell ⟨w.heap.size, 1, none⟩ (.slice ak n.K.length ck)).setCell ⟨w.heap.size, 2, none⟩ (.slice av n.V.length cv)).setCell ⟨w.heap.size, 3, none⟩ (.slice ac n.C.length cc)) ∧ Below w.heap.size w ((((w2.setCell ⟨w.heap.size, 0, none⟩ (.bool n.leaf)).setCell ⟨w.heap.size, 1, none⟩ (.slice ak n.K.length ck)).setCell ⟨w.heap.size, 2, none⟩ (.slice av n.V.length cv)).setCell ⟨w.heap.size, 3, none⟩ (.slice ac n.C.length cc))) := by
    have z3 := HZ3.out;exact Hd ⟨⟨ak, av, ac, ck, cv, cc, rfl, HRW2.out.set4 _ _ _ _ _ (fun x hx => by have := Q1.out x hx; omega) (fun x hx => by have := Q2.out x hx; omega) (fun x hx => by have := Q3.out x hx; omega), fun x hx => by have := Q1.out x hx; omega, fun x hx => by have := Q2.out x hx; omega, fun x hx => by have := Q3.out x hx; omega, (((U12.out.setCell _ _).setCell _ _).setCell _ _).setCell _ _, (((U22.out.setCell _ _).setCell _ _).setCell _ _).setCell _ _⟩, ((((hbw.out).setCell (Nat.le_refl _) _).setCell (Nat.le_refl _) _).setCell (Nat.le_refl _) _).setCell (Nat.le_refl _) _⟩
   clear XR;go_wp2_with fail;exact bodyPost_ret (v := .tuple #[.agg #[.bool n.leaf, .slice ak n.K.length ck, .slice av n.V.length cv, .slice ac n.C.length cc], .int .i64 0]) (by simp [results, Tryz.results162, go_sem, Z0.out, Z1.out, Z2.out, Z3.out]) rfl FIN.out
 ·rw [if_neg (by simp)] at hres
  subst hres;have XZ2 := ZWH.out;clear c0 c1 c2 c3 RG;have g0 := cl XZ2 0 rfl;have g1 := cl XZ2 1 rfl;have g2 := cl XZ2 2 rfl;have g3 := cl XZ2 3 rfl;have k0 := ufb XZ2 0;have k1 := ufb XZ2 1;have k2 := ufb XZ2 2;have k3 := ufb XZ2 3
  have XR : ((((wb.setCell ⟨w.heap.size, 0, none⟩ (.bool false)).setCell ⟨w.heap.size, 1, none⟩ (.slice none 0 0)).setCell ⟨w.heap.size, 2, none⟩ (.slice none 0 0)).setCell ⟨w.heap.size, 3, none⟩ (.slice none 0 0)).heap[w.heap.size]? = some (.cells #[.bool false, .slice none 0 0, .slice none 0 0, .slice none 0 0] 181) := by
   rw [heap_setCell_same _ _ 3 _ _ _ (heap_setCell_same _ _ 2 _ _ _ (heap_setCell_same _ _ 1 _ _ _ (heap_setCell_same _ _ 0 _ _ _ XZ2)))]
   rfl
  have Z0 : Hid (((((wb.setCell ⟨w.heap.size, 0, none⟩ (.bool false)).setCell ⟨w.heap.size, 1, none⟩ (.slice none 0 0)).setCell ⟨w.heap.size, 2, none⟩ (.slice none 0 0)).setCell ⟨w.heap.size, 3, none⟩ (.slice none 0 0)).cell? ⟨w.heap.size, 0, none⟩ = some (.bool false)) := Hd (by rw [Go.Joins.cell_of_block XR]; rfl)
  have Z1 : Hid (((((wb.setCell ⟨w.heap.size, 0, none⟩ (.bool false)).setCell ⟨w.heap.size, 1, none⟩ (.slice none 0 0)).setCell ⟨w.heap.size, 2, none⟩ (.slice none 0 0)).setCell ⟨w.heap.size, 3, none⟩ (.slice none 0 0)).cell? ⟨w.heap.size, 1, none⟩ = some (.slice none 0 0)) := Hd (by rw [Go.Joins.cell_of_block XR]; rfl)
  have Z2 : Hid (((((wb.setCell ⟨w.heap.size, 0, none⟩ (.bool false)).setCell ⟨w.heap.size, 1, none⟩ (.slice none 0 0)).setCell ⟨w.heap.size, 2, none⟩ (.slice none 0 0)).setCell ⟨w.heap.size, 3, none⟩ (.slice none 0 0)).cell? ⟨w.heap.size, 2, none⟩ = some (.slice none 0 0)) := Hd (by rw [Go.Joins.cell_of_block XR]; rfl)
  have Z3 : Hid (((((wb.setCell ⟨w.heap.size, 0, none⟩ (.bool false)).setCell ⟨w.heap.size, 1, none⟩ (.slice none 0 0)).setCell ⟨w.heap.size, 2, none⟩ (.slice none 0 0)).setCell ⟨w.heap.size, 3, none⟩ (.slice none 0 0)).cell? ⟨w.heap.size, 3, none⟩ = some (.slice none 0 0)) := Hd (by rw [Go.Joins.cell_of_block XR]; rfl)
  have FIN : Hid (DecResU w.heap.size none (.returned (.tuple #[.agg #[.bool false, .slice none 0 0, .slice none 0 0, .slice none 0 0], .int .i64 2])) ((((wb.setCell ⟨w.heap.size, 0, none⟩ (.bool false)).setCell ⟨w.heap.size, 1, none⟩ (.slice none 0 0)).setCell ⟨w.heap.size, 2, none⟩ (.slice none 0 0)).setCell ⟨w.heap.size, 3, none⟩ (.slice none 0 0)) ∧ Below w.heap.size w ((((wb.setCell ⟨w.heap.size, 0, none⟩ (.bool false)).setCell ⟨w.heap.size, 1, none⟩ (.slice none 0 0)).setCell ⟨w.heap.size, 2, none⟩ (.slice none 0 0)).setCell ⟨w.heap.size, 3, none⟩ (.slice none 0 0))) := Hd ⟨rfl, ((((BW.out).setCell (Nat.le_refl _) _).setCell (Nat.le_refl _) _).setCell (Nat.le_refl _) _).setCell (Nat.le_refl _) _⟩
  clear XR;go_wp2_with fail;exact bodyPost_ret (v := .tuple #[.agg #[.bool false, .slice none 0 0, .slice none 0 0, .slice none 0 0], .int .i64 2]) (by simp [results, Tryz.results162, go_sem, Z0.out, Z1.out, Z2.out, Z3.out]) rfl FIN.out
theorem decode_branchB (s r0 : ByteArray) (w : World) (h1 : 1 ≤ s.size) (h2 : s.size ≤ 240) (hb : s.extract 0 1 = ⟨#[2]⟩) (hr : s.extract 1 s.size = r0) (n : Nod) (bad v : Bool) (res : Option Nod) (hres : res = if (!bad && v) = true then some n else none) (hv : Hid (rightN n = v))
  (RDR : ∀ w3, RDb w3 (w.heap.size + 1) r0 false → Calls Tryz.prog 185 #[.pointer (some ⟨w.heap.size + 1, 0, none⟩)] w3 fun e w' => NodBackU w3.heap.size n e w' ∧ RDb w' (w.heap.size + 1) ⟨#[]⟩ bad ∧ Frm (fun k => k = w.heap.size + 1) w3 w') :
  Calls Tryz.prog 162 #[.string s] w fun e w' => DecResU w.heap.size res e w' ∧ Below w.heap.size w w' := by
 have RG := Hd (fun ak av ac ck cv cc w' (h : NodR w' n ak av ac ck cv cc) => ndRight_any n ak av ac ck cv cc w' h v hv);have z1 : (w.alloc (.cells #[.bool false, .slice none 0 0, .slice none 0 0, .slice none 0 0] 181)).heap.size = w.heap.size + 1 := by simp
 have z2 : ((w.alloc (.cells #[.bool false, .slice none 0 0, .slice none 0 0, .slice none 0 0] 181)).alloc (.cells #[.string r0, .bool false] 260)).heap.size = w.heap.size + 1 + 1 := by simp
 obtain ⟨w3, hw3⟩ : ∃ w3, ((w.alloc (.cells #[.bool false, .slice none 0 0, .slice none 0 0, .slice none 0 0] 181)).alloc (.cells #[.string r0, .bool false] 260)).alloc (.cells #[.bool false, .slice none 0 0, .slice none 0 0, .slice none 0 0] 181) = w3 := ⟨_, rfl⟩
 have RD0 : RDb w3 (w.heap.size + 1) r0 false := by
  rw [← hw3];unfold RDb;rw [heap_alloc_old _ _ (by rw [z2]; omega), ← z1];exact heap_alloc_new _ _
 have X0 : w3.heap[w.heap.size]? = some (.cells #[.bool false, .slice none 0 0, .slice none 0 0, .slice none 0 0] 181) := by
  rw [← hw3, heap_alloc_old _ _ (by rw [z2]; omega), heap_alloc_old _ _ (by rw [z1]; omega)];exact heap_alloc_new _ _
 have X2 : w3.heap[w.heap.size + 1 + 1]? = some (.cells #[.bool false, .slice none 0 0, .slice none 0 0, .slice none 0 0] 181) := by
  rw [← hw3, ← z2];exact heap_alloc_new _ _
 have z3 : w3.heap.size = w.heap.size + 3 := by rw [← hw3]; simp
 have B3 : Below w.heap.size w w3 := by
  rw [← hw3];exact ((Br.alloc (Nat.le_refl _) _).alloc (by simp) _).alloc (by rw [z2]; omega) _
 have LEAF := Hd (RDR w3 RD0);have H0 := Hd X0;have H2 := Hd X2;have HB3 := Hd B3;have HW3 := Hd hw3;have HZ3 := Hd z3;have HRES := Hd hres;have l1 : ¬ s = ByteArray.empty := fun e => by rw [e] at h1; exact absurd h1 (by decide)
 have l2 : ¬ (240 : Int) < (s.size : Int) := by omega
 have l3 : (1 : Int) ≤ (s.size : Int) := by omega
 clear z1 z2 RD0 X0 X2 z3 B3 hw3 h1 h2 RDR hres hv;go_enter Tryz.func162, Tryz.ntmps162;go_wp2_with fail;rw [HW3.out];refine LEAF.out.mono ?_;rintro e w1 ⟨⟨ak, av, ac, ck, cv, cc, rfl, hR, q1, q2, q3, u1, u2⟩, hrd, hfr⟩;have HR := Hd hR;have Q1 := Hd q1;have Q2 := Hd q2;have Q3 := Hd q3;have U1 := Hd ((((u1.setCell ⟨w.heap.size + 1 + 1, 0, none⟩ (.bool n.leaf)).setCell ⟨w.heap.size + 1 + 1, 1, none⟩ (.slice ak n.K.length ck)).setCell ⟨w.heap.size + 1 + 1, 2, none⟩ (.slice av n.V.length cv)).setCell ⟨w.heap.size + 1 + 1, 3, none⟩ (.slice ac n.C.length cc))
 have U2 := Hd ((((u2.setCell ⟨w.heap.size + 1 + 1, 0, none⟩ (.bool n.leaf)).setCell ⟨w.heap.size + 1 + 1, 1, none⟩ (.slice ak n.K.length ck)).setCell ⟨w.heap.size + 1 + 1, 2, none⟩ (.slice av n.V.length cv)).setCell ⟨w.heap.size + 1 + 1, 3, none⟩ (.slice ac n.C.length cc));have z3 := HZ3.out;have X1 : w1.heap[w.heap.size]? = some (.cells #[.bool false, .slice none 0 0, .slice none 0 0, .slice none 0 0] 181) := (hfr.block _ (by omega) (by show ¬ w.heap.size = w.heap.size + 1; omega)).trans H0.out
 have XB : w1.heap[w.heap.size + 1 + 1]? = some (.cells #[.bool false, .slice none 0 0, .slice none 0 0, .slice none 0 0] 181) := (hfr.block _ (by omega) (by show ¬ w.heap.size + 1 + 1 = w.heap.size + 1; omega)).trans H2.out;have HB1 : Hid (Below w.heap.size w w1) := Hd (HB3.out.trans (hfr.below (fun i hi => by have hi : i = w.heap.size + 1 := hi; omega) (by omega)));have y0 := cl XB 0 rfl;have y1 := cl XB 1 rfl;have y2 := cl XB 2 rfl;have y3 := cl XB 3 rfl;have f0 := ufb XB 0;have f1 := ufb XB 1;have f2 := ufb XB 2;have f3 := ufb XB 3
 have XW : ((((w1.setCell ⟨w.heap.size + 1 + 1, 0, none⟩ (.bool n.leaf)).setCell ⟨w.heap.size + 1 + 1, 1, none⟩ (.slice ak n.K.length ck)).setCell ⟨w.heap.size + 1 + 1, 2, none⟩ (.slice av n.V.length cv)).setCell ⟨w.heap.size + 1 + 1, 3, none⟩ (.slice ac n.C.length cc)).heap[w.heap.size + 1 + 1]? = some (.cells #[.bool n.leaf, .slice ak n.K.length ck, .slice av n.V.length cv, .slice ac n.C.length cc] 181) := by
  rw [heap_setCell_same _ _ 3 _ _ _ (heap_setCell_same _ _ 2 _ _ _ (heap_setCell_same _ _ 1 _ _ _ (heap_setCell_same _ _ 0 _ _ _ XB)))]
  rfl
 have keep : ∀ q, ¬ q = w.heap.size + 1 + 1 → ((((w1.setCell ⟨w.heap.size + 1 + 1, 0, none⟩ (.bool n.leaf)).setCell ⟨w.heap.size + 1 + 1, 1, none⟩ (.slice ak n.K.length ck)).setCell ⟨w.heap.size + 1 + 1, 2, none⟩ (.slice av n.V.length cv)).setCell ⟨w.heap.size + 1 + 1, 3, none⟩ (.slice ac n.C.length cc)).heap[q]? = w1.heap[q]? := fun q hne => by
  have hne' : ∀ i, q ≠ (⟨w.heap.size + 1 + 1, i, none⟩ : Addr).block := fun i => hne
  rw [Below.heap_setCell _ _ _ _ (hne' 3), Below.heap_setCell _ _ _ _ (hne' 2), Below.heap_setCell _ _ _ _ (hne' 1), Below.heap_setCell _ _ _ _ (hne' 0)]
 have RW := (keep (w.heap.size + 1) (by omega)).trans hrd;have ZW := (keep w.heap.size (by omega)).trans X1;have HRW := Hd (hR.set4 (w.heap.size + 1 + 1) (.bool n.leaf) (.slice ak n.K.length ck) (.slice av n.V.length cv) (.slice ac n.C.length cc) (fun x hx => by have := q1 x hx; omega) (fun x hx => by have := q2 x hx; omega) (fun x hx => by have := q3 x hx; omega))
 have BW : Hid (Below w.heap.size w ((((w1.setCell ⟨w.heap.size + 1 + 1, 0, none⟩ (.bool n.leaf)).setCell ⟨w.heap.size + 1 + 1, 1, none⟩ (.slice ak n.K.length ck)).setCell ⟨w.heap.size + 1 + 1, 2, none⟩ (.slice av n.V.length cv)).setCell ⟨w.heap.size + 1 + 1, 3, none⟩ (.slice ac n.C.length cc))) := Hd (((((HB1.out).setCell (by show _ ≤ w.heap.size + 1 + 1; omega) _).setCell (by show _ ≤ w.heap.size + 1 + 1; omega) _).setCell (by show _ ≤ w.heap.size + 1 + 1; omega) _).setCell (by show _ ≤ w.heap.size + 1 + 1; omega) _);simp only [nodV];clear hR q1 q2 q3 u1 u2 hrd hfr X1 XB keep
 go_upto_region 11 with fail
 obtain ⟨wb, hwb⟩ : ∃ wb, ((((w1.setCell ⟨w.heap.size + 1 + 1, 0, none⟩ (.bool n.leaf)).setCell ⟨w.heap.size + 1 + 1, 1, none⟩ (.slice ak n.K.length ck)).setCell ⟨w.heap.size + 1 + 1, 2, none⟩ (.slice av n.V.length cv)).setCell ⟨w.heap.size + 1 + 1, 3, none⟩ (.slice ac n.C.length cc)) = wb := ⟨_, rfl⟩
 rw [hwb] at XW RW ZW HRW BW U1 U2 ⊢;have XWH := Hd XW;have ZWH := Hd ZW;have cR := cl RW 1 rfl;have c0 := cl XW 0 rfl;have c1 := cl XW 1 rfl;have c2 := cl XW 2 rfl;have c3 := cl XW 3 rfl;clear XW RW z3 hwb y0 y1 y2 y3 f0 f1 f2 f3;have hres := HRES.out
 cases bad
 ·go_wp2_with fail
  refine (RG.out _ _ _ _ _ _ _ HRW.out).mono ?_;rintro e w2 ⟨rfl, b2⟩;have XB2 := kept XWH.out b2;have XZ2 := kept ZWH.out b2;have hbw := Hd (chain BW.out b2);have HRW2 := Hd (HRW.out.below b2);have U12 := Hd (U1.out.below b2);have U22 := Hd (U2.out.below b2);have d0 := cl XB2 0 rfl;have d1 := cl XB2 1 rfl;have d2 := cl XB2 2 rfl;have d3 := cl XB2 3 rfl;clear b2 cR c0 c1 c2 c3 XB2 HRW BW
  cases v
  ·rw [if_neg (by decide)] at hres
   subst hres;have g0 := cl XZ2 0 rfl;have g1 := cl XZ2 1 rfl;have g2 := cl XZ2 2 rfl;have g3 := cl XZ2 3 rfl;have k0 := ufb XZ2 0;have k1 := ufb XZ2 1;have k2 := ufb XZ2 2;have k3 := ufb XZ2 3
   have XR : ((((w2.setCell ⟨w.heap.size, 0, none⟩ (.bool false)).setCell ⟨w.heap.size, 1, none⟩ (.slice none 0 0)).setCell ⟨w.heap.size, 2, none⟩ (.slice none 0 0)).setCell ⟨w.heap.size, 3, none⟩ (.slice none 0 0)).heap[w.heap.size]? = some (.cells #[.bool false, .slice none 0 0, .slice none 0 0, .slice none 0 0] 181) := by
    rw [heap_setCell_same _ _ 3 _ _ _ (heap_setCell_same _ _ 2 _ _ _ (heap_setCell_same _ _ 1 _ _ _ (heap_setCell_same _ _ 0 _ _ _ XZ2)))]
    rfl
   have Z0 : Hid (((((w2.setCell ⟨w.heap.size, 0, none⟩ (.bool false)).setCell ⟨w.heap.size, 1, none⟩ (.slice none 0 0)).setCell ⟨w.heap.size, 2, none⟩ (.slice none 0 0)).setCell ⟨w.heap.size, 3, none⟩ (.slice none 0 0)).cell? ⟨w.heap.size, 0, none⟩ = some (.bool false)) := Hd (by rw [Go.Joins.cell_of_block XR]; rfl)
   have Z1 : Hid (((((w2.setCell ⟨w.heap.size, 0, none⟩ (.bool false)).setCell ⟨w.heap.size, 1, none⟩ (.slice none 0 0)).setCell ⟨w.heap.size, 2, none⟩ (.slice none 0 0)).setCell ⟨w.heap.size, 3, none⟩ (.slice none 0 0)).cell? ⟨w.heap.size, 1, none⟩ = some (.slice none 0 0)) := Hd (by rw [Go.Joins.cell_of_block XR]; rfl)
   have Z2 : Hid (((((w2.setCell ⟨w.heap.size, 0, none⟩ (.bool false)).setCell ⟨w.heap.size, 1, none⟩ (.slice none 0 0)).setCell ⟨w.heap.size, 2, none⟩ (.slice none 0 0)).setCell ⟨w.heap.size, 3, none⟩ (.slice none 0 0)).cell? ⟨w.heap.size, 2, none⟩ = some (.slice none 0 0)) := Hd (by rw [Go.Joins.cell_of_block XR]; rfl)
   have Z3 : Hid (((((w2.setCell ⟨w.heap.size, 0, none⟩ (.bool false)).setCell ⟨w.heap.size, 1, none⟩ (.slice none 0 0)).setCell ⟨w.heap.size, 2, none⟩ (.slice none 0 0)).setCell ⟨w.heap.size, 3, none⟩ (.slice none 0 0)).cell? ⟨w.heap.size, 3, none⟩ = some (.slice none 0 0)) := Hd (by rw [Go.Joins.cell_of_block XR]; rfl)
   have FIN : Hid (DecResU w.heap.size none (.returned (.tuple #[.agg #[.bool false, .slice none 0 0, .slice none 0 0, .slice none 0 0], .int .i64 2])) ((((w2.setCell ⟨w.heap.size, 0, none⟩ (.bool false)).setCell ⟨w.heap.size, 1, none⟩ (.slice none 0 0)).setCell ⟨w.heap.size, 2, none⟩ (.slice none 0 0)).setCell ⟨w.heap.size, 3, none⟩ (.slice none 0 0)) ∧ Below w.heap.size w ((((w2.setCell ⟨w.heap.size, 0, none⟩ (.bool false)).setCell ⟨w.heap.size, 1, none⟩ (.slice none 0 0)).setCell ⟨w.heap.size, 2, none⟩ (.slice none 0 0)).setCell ⟨w.heap.size, 3, none⟩ (.slice none 0 0))) := Hd ⟨rfl, ((((hbw.out).setCell (Nat.le_refl _) _).setCell (Nat.le_refl _) _).setCell (Nat.le_refl _) _).setCell (Nat.le_refl _) _⟩
   clear XR;go_wp2_with fail;exact bodyPost_ret (v := .tuple #[.agg #[.bool false, .slice none 0 0, .slice none 0 0, .slice none 0 0], .int .i64 2]) (by simp [results, Tryz.results162, go_sem, Z0.out, Z1.out, Z2.out, Z3.out]) rfl FIN.out
  ·rw [if_pos (by decide)] at hres
   subst hres;have g0 := cl XZ2 0 rfl;have g1 := cl XZ2 1 rfl;have g2 := cl XZ2 2 rfl;have g3 := cl XZ2 3 rfl;have k0 := ufb XZ2 0;have k1 := ufb XZ2 1;have k2 := ufb XZ2 2;have k3 := ufb XZ2 3
   have XR : ((((w2.setCell ⟨w.heap.size, 0, none⟩ (.bool n.leaf)).setCell ⟨w.heap.size, 1, none⟩ (.slice ak n.K.length ck)).setCell ⟨w.heap.size, 2, none⟩ (.slice av n.V.length cv)).setCell ⟨w.heap.size, 3, none⟩ (.slice ac n.C.length cc)).heap[w.heap.size]? = some (.cells #[.bool n.leaf, .slice ak n.K.length ck, .slice av n.V.length cv, .slice ac n.C.length cc] 181) := by
    rw [heap_setCell_same _ _ 3 _ _ _ (heap_setCell_same _ _ 2 _ _ _ (heap_setCell_same _ _ 1 _ _ _ (heap_setCell_same _ _ 0 _ _ _ XZ2)))]
    rfl
   have Z0 : Hid (((((w2.setCell ⟨w.heap.size, 0, none⟩ (.bool n.leaf)).setCell ⟨w.heap.size, 1, none⟩ (.slice ak n.K.length ck)).setCell ⟨w.heap.size, 2, none⟩ (.slice av n.V.length cv)).setCell ⟨w.heap.size, 3, none⟩ (.slice ac n.C.length cc)).cell? ⟨w.heap.size, 0, none⟩ = some (.bool n.leaf)) := Hd (by rw [Go.Joins.cell_of_block XR]; rfl)
   have Z1 : Hid (((((w2.setCell ⟨w.heap.size, 0, none⟩ (.bool n.leaf)).setCell ⟨w.heap.size, 1, none⟩ (.slice ak n.K.length ck)).setCell ⟨w.heap.size, 2, none⟩ (.slice av n.V.length cv)).setCell ⟨w.heap.size, 3, none⟩ (.slice ac n.C.length cc)).cell? ⟨w.heap.size, 1, none⟩ = some (.slice ak n.K.length ck)) := Hd (by rw [Go.Joins.cell_of_block XR]; rfl)
   have Z2 : Hid (((((w2.setCell ⟨w.heap.size, 0, none⟩ (.bool n.leaf)).setCell ⟨w.heap.size, 1, none⟩ (.slice ak n.K.length ck)).setCell ⟨w.heap.size, 2, none⟩ (.slice av n.V.length cv)).setCell ⟨w.heap.size, 3, none⟩ (.slice ac n.C.length cc)).cell? ⟨w.heap.size, 2, none⟩ = some (.slice av n.V.length cv)) := Hd (by rw [Go.Joins.cell_of_block XR]; rfl)
   have Z3 : Hid (((((w2.setCell ⟨w.heap.size, 0, none⟩ (.bool n.leaf)).setCell ⟨w.heap.size, 1, none⟩ (.slice ak n.K.length ck)).setCell ⟨w.heap.size, 2, none⟩ (.slice av n.V.length cv)).setCell ⟨w.heap.size, 3, none⟩ (.slice ac n.C.length cc)).cell? ⟨w.heap.size, 3, none⟩ = some (.slice ac n.C.length cc)) := Hd (by rw [Go.Joins.cell_of_block XR]; rfl)
   have FIN : Hid (DecResU w.heap.size (some n) (.returned (.tuple #[.agg #[.bool n.leaf, .slice ak n.K.length ck, .slice av n.V.length cv, .slice ac n.C.length cc], .int .i64 0])) ((((w2.setCell ⟨w.heap.size, 0, none⟩ (.bool n.leaf)).setCell ⟨w.heap.size, 1, none⟩ (.slice ak n.K.length ck)).setCell ⟨w.heap.size, 2, none⟩ (.slice av n.V.length cv)).setCell ⟨w.heap.size, 3, none⟩ (.slice ac n.C.length cc)) ∧ Below w.heap.size w ((((w2.setCell ⟨w.heap.size, 0, none⟩ (.bool n.leaf)).setCell ⟨w.heap.size, 1, none⟩ (.slice ak n.K.length ck)).setCell ⟨w.heap.size, 2, none⟩ (.slice av n.V.length cv)).setCell ⟨w.heap.size, 3, none⟩ (.slice ac n.C.length cc))) := by
    have z3 := HZ3.out;exact Hd ⟨⟨ak, av, ac, ck, cv, cc, rfl, HRW2.out.set4 _ _ _ _ _ (fun x hx => by have := Q1.out x hx; omega) (fun x hx => by have := Q2.out x hx; omega) (fun x hx => by have := Q3.out x hx; omega), fun x hx => by have := Q1.out x hx; omega, fun x hx => by have := Q2.out x hx; omega, fun x hx => by have := Q3.out x hx; omega, (((U12.out.setCell _ _).setCell _ _).setCell _ _).setCell _ _, (((U22.out.setCell _ _).setCell _ _).setCell _ _).setCell _ _⟩, ((((hbw.out).setCell (Nat.le_refl _) _).setCell (Nat.le_refl _) _).setCell (Nat.le_refl _) _).setCell (Nat.le_refl _) _⟩
   clear XR;go_wp2_with fail;exact bodyPost_ret (v := .tuple #[.agg #[.bool n.leaf, .slice ak n.K.length ck, .slice av n.V.length cv, .slice ac n.C.length cc], .int .i64 0]) (by simp [results, Tryz.results162, go_sem, Z0.out, Z1.out, Z2.out, Z3.out]) rfl FIN.out
 ·rw [if_neg (by simp)] at hres
  subst hres;have XZ2 := ZWH.out;clear c0 c1 c2 c3 RG;have g0 := cl XZ2 0 rfl;have g1 := cl XZ2 1 rfl;have g2 := cl XZ2 2 rfl;have g3 := cl XZ2 3 rfl;have k0 := ufb XZ2 0;have k1 := ufb XZ2 1;have k2 := ufb XZ2 2;have k3 := ufb XZ2 3
  have XR : ((((wb.setCell ⟨w.heap.size, 0, none⟩ (.bool false)).setCell ⟨w.heap.size, 1, none⟩ (.slice none 0 0)).setCell ⟨w.heap.size, 2, none⟩ (.slice none 0 0)).setCell ⟨w.heap.size, 3, none⟩ (.slice none 0 0)).heap[w.heap.size]? = some (.cells #[.bool false, .slice none 0 0, .slice none 0 0, .slice none 0 0] 181) := by
   rw [heap_setCell_same _ _ 3 _ _ _ (heap_setCell_same _ _ 2 _ _ _ (heap_setCell_same _ _ 1 _ _ _ (heap_setCell_same _ _ 0 _ _ _ XZ2)))]
   rfl
  have Z0 : Hid (((((wb.setCell ⟨w.heap.size, 0, none⟩ (.bool false)).setCell ⟨w.heap.size, 1, none⟩ (.slice none 0 0)).setCell ⟨w.heap.size, 2, none⟩ (.slice none 0 0)).setCell ⟨w.heap.size, 3, none⟩ (.slice none 0 0)).cell? ⟨w.heap.size, 0, none⟩ = some (.bool false)) := Hd (by rw [Go.Joins.cell_of_block XR]; rfl)
  have Z1 : Hid (((((wb.setCell ⟨w.heap.size, 0, none⟩ (.bool false)).setCell ⟨w.heap.size, 1, none⟩ (.slice none 0 0)).setCell ⟨w.heap.size, 2, none⟩ (.slice none 0 0)).setCell ⟨w.heap.size, 3, none⟩ (.slice none 0 0)).cell? ⟨w.heap.size, 1, none⟩ = some (.slice none 0 0)) := Hd (by rw [Go.Joins.cell_of_block XR]; rfl)
  have Z2 : Hid (((((wb.setCell ⟨w.heap.size, 0, none⟩ (.bool false)).setCell ⟨w.heap.size, 1, none⟩ (.slice none 0 0)).setCell ⟨w.heap.size, 2, none⟩ (.slice none 0 0)).setCell ⟨w.heap.size, 3, none⟩ (.slice none 0 0)).cell? ⟨w.heap.size, 2, none⟩ = some (.slice none 0 0)) := Hd (by rw [Go.Joins.cell_of_block XR]; rfl)
  have Z3 : Hid (((((wb.setCell ⟨w.heap.size, 0, none⟩ (.bool false)).setCell ⟨w.heap.size, 1, none⟩ (.slice none 0 0)).setCell ⟨w.heap.size, 2, none⟩ (.slice none 0 0)).setCell ⟨w.heap.size, 3, none⟩ (.slice none 0 0)).cell? ⟨w.heap.size, 3, none⟩ = some (.slice none 0 0)) := Hd (by rw [Go.Joins.cell_of_block XR]; rfl)
  have FIN : Hid (DecResU w.heap.size none (.returned (.tuple #[.agg #[.bool false, .slice none 0 0, .slice none 0 0, .slice none 0 0], .int .i64 2])) ((((wb.setCell ⟨w.heap.size, 0, none⟩ (.bool false)).setCell ⟨w.heap.size, 1, none⟩ (.slice none 0 0)).setCell ⟨w.heap.size, 2, none⟩ (.slice none 0 0)).setCell ⟨w.heap.size, 3, none⟩ (.slice none 0 0)) ∧ Below w.heap.size w ((((wb.setCell ⟨w.heap.size, 0, none⟩ (.bool false)).setCell ⟨w.heap.size, 1, none⟩ (.slice none 0 0)).setCell ⟨w.heap.size, 2, none⟩ (.slice none 0 0)).setCell ⟨w.heap.size, 3, none⟩ (.slice none 0 0))) := Hd ⟨rfl, ((((BW.out).setCell (Nat.le_refl _) _).setCell (Nat.le_refl _) _).setCell (Nat.le_refl _) _).setCell (Nat.le_refl _) _⟩
  clear XR;go_wp2_with fail;exact bodyPost_ret (v := .tuple #[.agg #[.bool false, .slice none 0 0, .slice none 0 0, .slice none 0 0], .int .i64 2]) (by simp [results, Tryz.results162, go_sem, Z0.out, Z1.out, Z2.out, Z3.out]) rfl FIN.out
theorem decode_other (s : ByteArray) (w : World) (h1 : 1 ≤ s.size) (h2 : s.size ≤ 240) (n1 : s.extract 0 1 ≠ ⟨#[1]⟩) (n2 : s.extract 0 1 ≠ ⟨#[2]⟩) :
  Calls Tryz.prog 162 #[.string s] w fun e w' => DecResU w.heap.size none e w' ∧ Below w.heap.size w w' := by
 obtain ⟨r0, hr⟩ : ∃ r0, s.extract 1 s.size = r0 := ⟨_, rfl⟩
 obtain ⟨x, hx⟩ : ∃ x, s.extract 0 1 = x := ⟨_, rfl⟩
 rw [hx] at n1 n2;have z1 : (w.alloc (.cells #[.bool false, .slice none 0 0, .slice none 0 0, .slice none 0 0] 181)).heap.size = w.heap.size + 1 := by simp
 have z2 : ((w.alloc (.cells #[.bool false, .slice none 0 0, .slice none 0 0, .slice none 0 0] 181)).alloc (.cells #[.string r0, .bool false] 260)).heap.size = w.heap.size + 1 + 1 := by simp
 obtain ⟨w3, hw3⟩ : ∃ w3, ((w.alloc (.cells #[.bool false, .slice none 0 0, .slice none 0 0, .slice none 0 0] 181)).alloc (.cells #[.string r0, .bool false] 260)).alloc (.cells #[.bool false, .slice none 0 0, .slice none 0 0, .slice none 0 0] 181) = w3 := ⟨_, rfl⟩
 have RD0 : RDb w3 (w.heap.size + 1) r0 false := by
  rw [← hw3];unfold RDb;rw [heap_alloc_old _ _ (by rw [z2]; omega), ← z1];exact heap_alloc_new _ _
 have X0 : w3.heap[w.heap.size]? = some (.cells #[.bool false, .slice none 0 0, .slice none 0 0, .slice none 0 0] 181) := by
  rw [← hw3, heap_alloc_old _ _ (by rw [z2]; omega), heap_alloc_old _ _ (by rw [z1]; omega)];exact heap_alloc_new _ _
 have X2 : w3.heap[w.heap.size + 1 + 1]? = some (.cells #[.bool false, .slice none 0 0, .slice none 0 0, .slice none 0 0] 181) := by
  rw [← hw3, ← z2];exact heap_alloc_new _ _
 have z3 : w3.heap.size = w.heap.size + 3 := by rw [← hw3]; simp
 have B3 : Below w.heap.size w w3 := by
  rw [← hw3];exact ((Br.alloc (Nat.le_refl _) _).alloc (by simp) _).alloc (by rw [z2]; omega) _
 have l1 : ¬ s = ByteArray.empty := fun e => by rw [e] at h1; exact absurd h1 (by decide)
 have l2 : ¬ (240 : Int) < (s.size : Int) := by omega
 have l3 : (1 : Int) ≤ (s.size : Int) := by omega
 have n1' : (x.toList == [1]) = false := first_not x 1 n1;have n2' : (x.toList == [2]) = false := first_not x 2 n2;have XZ2 := X0;have HB3 := Hd B3;clear z1 z2 RD0 X0 X2 z3 B3 h1 h2 n1 n2;go_enter Tryz.func162, Tryz.ntmps162;go_upto_region 6 with fail
 try rw [hw3]
 have g0 := cl XZ2 0 rfl;have g1 := cl XZ2 1 rfl;have g2 := cl XZ2 2 rfl;have g3 := cl XZ2 3 rfl;have k0 := ufb XZ2 0;have k1 := ufb XZ2 1;have k2 := ufb XZ2 2;have k3 := ufb XZ2 3
 have XR : ((((w3.setCell ⟨w.heap.size, 0, none⟩ (.bool false)).setCell ⟨w.heap.size, 1, none⟩ (.slice none 0 0)).setCell ⟨w.heap.size, 2, none⟩ (.slice none 0 0)).setCell ⟨w.heap.size, 3, none⟩ (.slice none 0 0)).heap[w.heap.size]? = some (.cells #[.bool false, .slice none 0 0, .slice none 0 0, .slice none 0 0] 181) := by
  rw [heap_setCell_same _ _ 3 _ _ _ (heap_setCell_same _ _ 2 _ _ _ (heap_setCell_same _ _ 1 _ _ _ (heap_setCell_same _ _ 0 _ _ _ XZ2)))]
  rfl
 have Z0 : Hid (((((w3.setCell ⟨w.heap.size, 0, none⟩ (.bool false)).setCell ⟨w.heap.size, 1, none⟩ (.slice none 0 0)).setCell ⟨w.heap.size, 2, none⟩ (.slice none 0 0)).setCell ⟨w.heap.size, 3, none⟩ (.slice none 0 0)).cell? ⟨w.heap.size, 0, none⟩ = some (.bool false)) := Hd (by rw [Go.Joins.cell_of_block XR]; rfl)
 have Z1 : Hid (((((w3.setCell ⟨w.heap.size, 0, none⟩ (.bool false)).setCell ⟨w.heap.size, 1, none⟩ (.slice none 0 0)).setCell ⟨w.heap.size, 2, none⟩ (.slice none 0 0)).setCell ⟨w.heap.size, 3, none⟩ (.slice none 0 0)).cell? ⟨w.heap.size, 1, none⟩ = some (.slice none 0 0)) := Hd (by rw [Go.Joins.cell_of_block XR]; rfl)
 have Z2 : Hid (((((w3.setCell ⟨w.heap.size, 0, none⟩ (.bool false)).setCell ⟨w.heap.size, 1, none⟩ (.slice none 0 0)).setCell ⟨w.heap.size, 2, none⟩ (.slice none 0 0)).setCell ⟨w.heap.size, 3, none⟩ (.slice none 0 0)).cell? ⟨w.heap.size, 2, none⟩ = some (.slice none 0 0)) := Hd (by rw [Go.Joins.cell_of_block XR]; rfl)
 have Z3 : Hid (((((w3.setCell ⟨w.heap.size, 0, none⟩ (.bool false)).setCell ⟨w.heap.size, 1, none⟩ (.slice none 0 0)).setCell ⟨w.heap.size, 2, none⟩ (.slice none 0 0)).setCell ⟨w.heap.size, 3, none⟩ (.slice none 0 0)).cell? ⟨w.heap.size, 3, none⟩ = some (.slice none 0 0)) := Hd (by rw [Go.Joins.cell_of_block XR]; rfl)
 have FIN : Hid (DecResU w.heap.size none (.returned (.tuple #[.agg #[.bool false, .slice none 0 0, .slice none 0 0, .slice none 0 0], .int .i64 2])) ((((w3.setCell ⟨w.heap.size, 0, none⟩ (.bool false)).setCell ⟨w.heap.size, 1, none⟩ (.slice none 0 0)).setCell ⟨w.heap.size, 2, none⟩ (.slice none 0 0)).setCell ⟨w.heap.size, 3, none⟩ (.slice none 0 0)) ∧ Below w.heap.size w ((((w3.setCell ⟨w.heap.size, 0, none⟩ (.bool false)).setCell ⟨w.heap.size, 1, none⟩ (.slice none 0 0)).setCell ⟨w.heap.size, 2, none⟩ (.slice none 0 0)).setCell ⟨w.heap.size, 3, none⟩ (.slice none 0 0))) := Hd ⟨rfl, ((((HB3.out).setCell (Nat.le_refl _) _).setCell (Nat.le_refl _) _).setCell (Nat.le_refl _) _).setCell (Nat.le_refl _) _⟩
 clear XR;go_wp2_with fail;exact bodyPost_ret (v := .tuple #[.agg #[.bool false, .slice none 0 0, .slice none 0 0, .slice none 0 0], .int .i64 2]) (by simp [results, Tryz.results162, go_sem, Z0.out, Z1.out, Z2.out, Z3.out]) rfl FIN.out
theorem decode_anyU (s : ByteArray) (w : World) : Calls Tryz.prog 162 #[.string s] w fun e w' => DecResU w.heap.size (decN s) e w' ∧ Below w.heap.size w w' := by
 unfold decN
 by_cases h : s.size = 0 ∨ 240 < s.size
 ·rw [if_pos h]; exact decode_size s w h
 ·rw [if_neg h]
  have h1 : 1 ≤ s.size := by omega
  have h2 : s.size ≤ 240 := by omega
  have hez := ext_size1 s h1;unfold rdN
  by_cases e1 : s.extract 0 1 = ⟨#[1]⟩
  ·rw [if_pos e1]
   refine decode_leafB s _ w h1 h2 e1 rfl _ _ _ _ rfl (Hd rfl) (fun w3 hrd => ?_);have := rleaf_any (w.heap.size + 1) (s.extract 1 s.size) false s.size w3 hrd (by omega) (by omega) (rdLeaf s.size (s.extract 1 s.size)).1 (rdLeaf s.size (s.extract 1 s.size)).2.1 (rdLeaf s.size (s.extract 1 s.size)).2.2 (Hd rfl);rw [Bool.false_or] at this;exact this
  ·rw [if_neg e1]
   by_cases e2 : s.extract 0 1 = ⟨#[2]⟩
   ·rw [if_pos e2]
    refine decode_branchB s _ w h1 h2 e2 rfl _ _ _ _ rfl (Hd rfl) (fun w3 hrd => ?_);have hle := takeR_le (s.extract 1 s.size) 2;have := rbranch_any (w.heap.size + 1) (s.extract 1 s.size) false s.size w3 hrd (by omega) (by omega) (rdBr s.size (takeR (s.extract 1 s.size) 2)).1 (rdBr s.size (takeR (s.extract 1 s.size) 2)).2.1 (rdBr s.size (takeR (s.extract 1 s.size) 2)).2.2 _ (Hd rfl) (Hd rfl);rw [Bool.false_or] at this;exact this
   ·rw [if_neg e2]
    exact decode_other s w h1 h2 e1 e2
theorem put2_len (n : Int) : (putL n 2).length ≤ 2 := by
 unfold putL
 split
 ·rw [be_length]; decide
 ·exact Nat.zero_le _
theorem encBr_le (K C : List Int) (j : Nat) : (encBr K C j).length ≤ 3 + 10 * j := by
 induction j with
 | zero => have := put2_len (C.getD 0 0); simp only [encBr, List.length_cons]; omega
 | succ j ih =>
  have h1 := putL_le (K.getD j 0);have h2 := put2_len (C.getD (j + 1) 0);simp only [encBr, List.length_append];omega
theorem encode_branch (n : Nod) (ak av ac : Option Addr) (ck cv cc : Nat) (w : World) (h : NodR w n ak av ac ck cv cc) (hr : rightN n = true) (h0 : n.leaf = false) :
  Calls Tryz.prog 190 #[nodV n ak av ac ck cv cc] w fun e w' => e = .returned (.tuple #[.string (Str (encBr n.K n.C n.K.length)), .int .i64 0]) ∧ Below w.heap.size w w' := by
 have hr2 := (rightN_iff n).1 hr;have hw := hr2.2.1;have hcb := ((plainB_iff n).1 hr2.1).2.2;have hwl := (wholeB_branch h0).1 hw;have RG := Hd (fun w' (hb : Below w.heap.size w w') => ndRight_any n ak av ac ck cv cc w' (h.below hb) true (Hd hr));have hk1 := h.ok.k1;have hkb := h.ok.kb;have HK0 := h.k;have HV0 := h.c;clear h hw hr hr2;obtain ⟨lf, K, V, C⟩ := n;unfold nodV at *
 dsimp only at RG h0 hwl hk1 hkb HK0 HV0 hcb ⊢
 subst h0;obtain ⟨lk, hlk⟩ : ∃ lk, K.length = lk := ⟨_, rfl⟩
 have hlv : C.length = lk + 1 := by rw [hwl.1, hlk]
 rw [hlk, hlv] at RG ⊢;rw [hlk] at hk1;generalize V.length = lv at *;have b0 : Below w.heap.size w (w.alloc (.cells #[.bool false, .slice ak lk ck, .slice av lv cv, .slice ac (lk + 1) cc] 181)) := below_made _ _;have B0 := Hd b0;have HKB := Hd hkb;have HLE := Hd (encBr_le K C);have HCB := Hd hcb;have hc0 : 0 < (C.map ikid).length := by rw [List.length_map]; omega
 have HC0 : Hid (∀ w', Below w.heap.size w w' → ∃ b off x, ac = some ⟨b, off, none⟩ ∧ 2 ≤ x ∧ x < 640 ∧ C.getD 0 0 = x ∧ w'.cell? ⟨b, off, none⟩ = some (.int .i64 x)) := Hd (fun w' hb => by
  obtain ⟨b, off, q1, q2, q3⟩ := (HV0.below hb).at 0 hc0;have hm := hcb C[0] (List.getElem_mem _);refine ⟨b, off, C[0], q1, hm.1, hm.2, by rw [List.getD_eq_getElem?_getD, List.getElem?_eq_getElem (by omega)]; rfl, ?_⟩;have : off + 0 = off := rfl;rw [this] at q3;rw [q3, List.getElem_map]; rfl)
 clear b0 hwl hkb hcb hc0;go_enter Tryz.func190, Tryz.ntmps190;go_wp2_with fail;refine (RG.out _ B0.out).mono ?_;rintro e w1 ⟨rfl, b1⟩;have X1 := Hd (box_kept b1);have B1 := Hd (box_below b1);clear b1 RG B0;have FB := Lib.fresh_isBuilder 280 5 w1;have bA : Below w1.heap.size w1 (w1.alloc (.cells #[.pointer none, .slice none 0 0] 280)) := below_made _ _;have XA := Hd ((bA.block _ (Array.getElem?_eq_some_iff.1 X1.out).1).trans X1.out);have y0 := cl XA.out 0 rfl;have FBH := Hd FB;have BA := Hd bA;clear FB bA;have y3 := cl XA.out 3 rfl
 obtain ⟨b0, off0, x0, rfl, hx1, hx2, hx3, hx4⟩ := HC0.out _ (chain B1.out BA.out);have hxw : IntKind.u64.wrap x0 = x0 := by rw [IntKind.wrap_u64]; omega
 have hlt0 : (0 : Int) < ((lk + 1 : Nat) : Int) := by omega
 have hlt0' : (0 : Int) < (lk : Int) + 1 := by omega
 have HX3 := Hd hx3;have HX12 := Hd (And.intro hx1 hx2);clear hx3 HC0;go_wp2_with fail;refine (ndNumber_is x0 2 _ _ (by omega) rfl).mono ?_;rintro e w1b ⟨rfl, b1b⟩;have BAb := Hd (chain BA.out b1b);have FB2 := Hd (bld_below FBH.out b1b);have hpl := put2_len x0;have hadd : (⟨#[2]⟩ : ByteArray) ++ Str (putL x0 2) = Str (2 :: putL x0 2) := by apply eq_of_data; simp [append_list, Str_list]
 have hp2 : (Str (2 :: putL x0 2)).size ≤ 3 := by rw [Str_size]; simp; omega
 obtain ⟨p2, hp2e⟩ : ∃ p2, Str (putL x0 2) = p2 := ⟨_, rfl⟩
 have hp2z : p2.size ≤ 2 := by rw [← hp2e, Str_size]; omega
 have hs1 : (9223372036854775807 < 1 + p2.size) = False := by simp; omega
 have hs2 : (9223372036854775807 < (⟨#[2]⟩ : ByteArray).size + p2.size) = False := by simp only [show (⟨#[2]⟩ : ByteArray).size = 1 from rfl]; exact hs1
 rw [hp2e] at hadd ⊢;clear hp2e;clear b1b FBH hx4 y0 y3 hx1 hx2;go_wp2_with fail
 first | rw [hadd] | skip
 refine (bwrite_any w1.heap.size w1.heap.size [] (Str (2 :: putL x0 2)) _ FB2.out (by simp only [List.length_nil]; omega) BAb.out.size).mono ?_;rintro e w2 ⟨rfl, h2, b2⟩
 have I2 : Lib.IsBuilder 280 5 w1.heap.size w1.heap.size (Lib.byteCells (encBr K C 0)) w2 := by
  rw [List.nil_append, Lib.strCells_eq] at h2;unfold encBr;rw [HX3.out];rw [Str_list] at h2;exact .inr h2
 have B2 := Hd (BAb.out.trans b2);have I2H := Hd I2
 have z1 : w2.cell? ⟨w.heap.size, 1, none⟩ = some (.slice ak lk ck) := by
  have X2 := (B2.out.block _ (Array.getElem?_eq_some_iff.1 X1.out).1).trans X1.out;rw [Go.Joins.cell_of_block X2]; rfl
 clear h2 b2 I2;go_wp2_with fail
 go_loopw [26] (fun i wr => ∃ j : Nat, j ≤ lk ∧ i = .int .i64 (j : Int) ∧ Below w1.heap.size w1 wr ∧ Lib.IsBuilder 280 5 w1.heap.size w1.heap.size (Lib.byteCells (encBr K C j)) wr) (fun i _ => lk + 1 - (intOf i).toNat)
 case atStart => exact ⟨0, Nat.zero_le _, rfl, B2.out, I2H.out⟩
 case round =>
  obtain ⟨j, hj, rfl, hb, hI⟩ := hrel;have HB := Hd hb;have HI := Hd hI;clear hI
  by_cases hlt : j < lk
  ·have hji : (j : Int) < (lk : Int) := by omega
   have hjl : j < (K.map ukey).length := by rw [List.length_map]; omega
   have hjv : j + 1 < (C.map ikid).length := by rw [List.length_map]; omega
   obtain ⟨b, off, rfl, hbl, zk0⟩ := HK0.at j hjl;obtain ⟨b', off', he', hbl', zv0⟩ := HV0.at (j + 1) hjv
   cases he'
   have zk := (hb.cell (p := ⟨b, off + j, none⟩) (Nat.lt_of_lt_of_le hbl B1.out.size)).trans ((B1.out.cell (p := ⟨b, off + j, none⟩) hbl).trans zk0);have zv1 := (B1.out.cell (p := ⟨b0, off0 + (j + 1), none⟩) hbl').trans zv0;have e1 : (K.map ukey)[j] = .int .u64 (K.getD j 0) := by rw [List.getElem_map, List.getD_eq_getElem?_getD, List.getElem?_eq_getElem (by omega)]; rfl
   have e2 : (C.map ikid)[j + 1] = .int .i64 (C.getD (j + 1) 0) := by rw [List.getElem_map, List.getD_eq_getElem?_getD, List.getElem?_eq_getElem (by omega)]; rfl
   have hcx : 2 ≤ C.getD (j + 1) 0 ∧ C.getD (j + 1) 0 < 640 := by
    rw [List.getD_eq_getElem?_getD, List.getElem?_eq_getElem (by omega)];exact HCB.out _ (List.getElem_mem _)
   rw [e1] at zk;rw [e2] at zv1;have ZV1 := Hd zv1
   have hkj : 0 ≤ K.getD j 0 := by
    rw [List.getD_eq_getElem?_getD, List.getElem?_eq_getElem (by omega)];exact (HKB.out _ (List.getElem_mem _)).1
   have hle := HLE.out j;have hp8 := putL_le (K.getD j 0);have ht8 := put2_len (C.getD (j + 1) 0);have ES : Hid (encBr K C (j + 1) = encBr K C j ++ putL (K.getD j 0) 8 ++ putL (C.getD (j + 1) 0) 2) := Hd rfl;clear e1 e2 zk0 zv0 zv1;generalize K.getD j 0 = kx at *;generalize C.getD (j + 1) 0 = vx at *;have XR := (hb.block _ (Array.getElem?_eq_some_iff.1 X1.out).1).trans X1.out;have XRH := Hd XR;clear XR hb;go_wp2_with fail;refine (ndNumber_is kx 8 _ _ hkj rfl).mono ?_;rintro e w3 ⟨rfl, b3⟩;have I3 := Hd (bld_below HI.out b3);have B3 := Hd (chain HB.out b3);clear b3 zk hbl;go_wp2_with fail
   refine (bwrite_any w1.heap.size w1.heap.size _ _ _ I3.out (by rw [Lib.byteCells_length, Str_size]; omega) B3.out.size).mono ?_;rintro e w4 ⟨rfl, h4, b4⟩;have B4 := Hd (B3.out.trans b4)
   have I4 : Hid (Lib.IsBuilder 280 5 w1.heap.size w1.heap.size (Lib.byteCells (encBr K C j ++ putL kx 8)) w4) := Hd (by
    rw [Lib.strCells_eq, Str_list, ← Lib.byteCells_append] at h4;exact .inr h4)
   have X4 := (B4.out.block _ (Array.getElem?_eq_some_iff.1 X1.out).1).trans X1.out;have u0 := cl X4 0 rfl;have u2 := cl X4 3 rfl;clear X4 h4 b4;have zv4 : w4.cell? ⟨b0, off0 + (j + 1), none⟩ = some (.int .i64 vx) := (B4.out.cell (p := ⟨b0, off0 + (j + 1), none⟩) (Nat.lt_of_lt_of_le hbl' B1.out.size)).trans ZV1.out;have hvw : IntKind.u64.wrap vx = vx := by rw [IntKind.wrap_u64]; omega
   have hj1w : IntKind.i64.wrap ((j : Int) + 1) = ((j + 1 : Nat) : Int) := by rw [IntKind.wrap_i64]; omega
   have hj1l : ((j + 1 : Nat) : Int) < ((lk + 1 : Nat) : Int) := by omega
   go_wp2_with fail;refine (ndNumber_is vx 2 _ _ (by omega) rfl).mono ?_;rintro e w5 ⟨rfl, b5⟩;have I5 := Hd (bld_below I4.out b5);have B5 := Hd (chain B4.out b5);clear b5 zv4 u0 u2;go_wp2_with fail;refine (bwrite_any w1.heap.size w1.heap.size _ _ _ I5.out (by rw [Lib.byteCells_length, List.length_append, Str_size]; omega) B5.out.size).mono ?_;rintro e w6 ⟨rfl, h6, b6⟩;have B6 := Hd (B5.out.trans b6)
   have I6 : Hid (Lib.IsBuilder 280 5 w1.heap.size w1.heap.size (Lib.byteCells (encBr K C (j + 1))) w6) := Hd (by
    rw [Lib.strCells_eq, Str_list, ← Lib.byteCells_append] at h6;rw [ES.out];exact .inr h6)
   clear h6 b6;go_wp2_with fail;go_roundw
   case rel => exact ⟨j + 1, by omega, by go_num, B6.out, I6.out⟩
   case measure => simp [intOf]; omega
  ·obtain rfl : j = lk := by omega
   have hji : ¬ (j : Int) < (j : Int) := by omega
   clear hb;go_wp2_with fail;refine (Tryz.Builder_String_any w1.heap.size w1.heap.size _ _ HI.out HB.out.size).mono ?_;rintro e w3 ⟨rfl, b3⟩;go_wp2_with fail;go_ret2;exact ⟨rfl, chain B1.out (HB.out.trans b3)⟩
theorem encode_yes (n : Nod) (ak av ac : Option Addr) (ck cv cc : Nat) (w : World) (h : NodR w n ak av ac ck cv cc) (hr : rightN n = true) :
  Calls Tryz.prog 190 #[nodV n ak av ac ck cv cc] w fun e w' => e = .returned (.tuple #[.string (encN n), .int .i64 0]) ∧ Below w.heap.size w w' := by
 cases hl : n.leaf with
 | false =>
  have := encode_branch n ak av ac ck cv cc w h hr hl;unfold encN;rw [hl]; exact this
 | true =>
  have hr2 := (rightN_iff n).1 hr;have hp := (plainB_iff n).1 hr2.1;have := encode_leaf n ak av ac ck cv cc w h hr2.2.1 hp.1 hp.2.1 hl (hr2.2.2.1 hl) hr2.2.2.2;unfold encN;rw [hl]; exact this
def visO (s : Nat) (r : Nat) : Obj := .cells #[.pointer (some ⟨s, 0, none⟩), .int .i64 (r : Int), .int .i64 0] 162
structure TSIn (w : World) (d s g : Nat) (dk : DkS) (st : ShS) (r : Nat) (FD FS : Nat → Prop) : Prop where
 ds : DS w d s dk st FD FS
 v : w.heap[g]? = some (visO s r)
 gd : ¬ FD g
 gs : ¬ FS g
def TS (w : World) (d s g : Nat) (dk : DkS) (st : ShS) (r : Nat) (F : Nat → Prop) : Prop := ∃ FD FS, TSIn w d s g dk st r FD FS ∧ ∀ k, F k ↔ FD k ∨ FS k ∨ k = g
theorem TS.lt {w : World} {d s g : Nat} {dk : DkS} {st : ShS} {r : Nat} {F : Nat → Prop} (h : TS w d s g dk st r F) (k : Nat) (hk : F k) : k < w.heap.size := by
 obtain ⟨FD, FS, hi, he⟩ := h
 rcases (he k).1 hk with h1 | h1 | h1
 ·obtain ⟨a, b, c, h2, h3⟩ := hi.ds.dk
  exact h2.lt k ((h3 k).1 h1)
 ·exact hi.ds.sto.lt k h1
 ·subst h1; exact (Array.getElem?_eq_some_iff.1 hi.v).1
theorem TS.frm {w w' : World} {d s g : Nat} {dk : DkS} {st : ShS} {r : Nat} {F G : Nat → Prop} (h : TS w d s g dk st r F) (hf : Frm G w w') (hd : ∀ k, F k → ¬ G k) : TS w' d s g dk st r F := by
 have hlt := h.lt;obtain ⟨FD, FS, hi, he⟩ := h;refine ⟨FD, FS, ⟨⟨hi.ds.dk.frm hf fun k hk => hd k ((he k).2 (.inl hk)), hi.ds.sto.frm hf fun k hk => hd k ((he k).2 (.inr (.inl hk))), hi.ds.apart⟩, ?_, hi.gd, hi.gs⟩, he⟩;have hg := (he g).2 (.inr (.inr rfl));exact (hf.block g (hlt g hg) (hd g hg)).trans hi.v
theorem TS.below {w w' : World} {d s g : Nat} {dk : DkS} {st : ShS} {r : Nat} {F : Nat → Prop} (h : TS w d s g dk st r F) (hb : Below w.heap.size w w') : TS w' d s g dk st r F :=
 h.frm (G := fun _ => False) (Frm.of_below hb) fun _ _ hx => hx
def TSPost (w : World) (d s g : Nat) (dk : DkS) (st : ShS) (r : Nat) (F : Nat → Prop) (w' : World) : Prop := ∃ F', TS w' d s g dk st r F' ∧ Frm F w w' ∧ ∀ k, F' k → F k ∨ w.heap.size ≤ k
theorem TSPost.trans {w w1 w2 : World} {d s g : Nat} {dk2 : DkS} {st2 : ShS} {r2 : Nat} {F F1 : Nat → Prop} (hs : w.heap.size ≤ w1.heap.size) (hf : Frm F w w1) (hn : ∀ k, F1 k → F k ∨ w.heap.size ≤ k) (h2 : TSPost w1 d s g dk2 st2 r2 F1 w2) : TSPost w d s g dk2 st2 r2 F w2 := by
 obtain ⟨F2, h, f2, n2⟩ := h2;refine ⟨F2, h, hf.trans f2 hn, fun k hk => ?_⟩
 rcases n2 k hk with hx | hx
 ·exact hn k hx
 ·exact .inr (Nat.le_trans hs hx)
def put4 (w : World) (b : Nat) (v0 v1 v2 v3 : Value) : World := (((w.setCell ⟨b, 0, none⟩ v0).setCell ⟨b, 1, none⟩ v1).setCell ⟨b, 2, none⟩ v2).setCell ⟨b, 3, none⟩ v3
theorem put4_block {w : World} {b : Nat} {a0 a1 a2 a3 : Value} {T : TypeId} (h : w.heap[b]? = some (.cells #[a0, a1, a2, a3] T)) (v0 v1 v2 v3 : Value) : (put4 w b v0 v1 v2 v3).heap[b]? = some (.cells #[v0, v1, v2, v3] T) := by
 unfold put4;rw [heap_setCell_same _ _ 3 _ _ _ (heap_setCell_same _ _ 2 _ _ _ (heap_setCell_same _ _ 1 _ _ _ (heap_setCell_same _ _ 0 _ _ _ h)))]
 rfl
theorem put4_frm {F : Nat → Prop} {w w1 : World} (h : Frm F w w1) (b : Nat) (v0 v1 v2 v3 : Value) (hb : F b ∨ w.heap.size ≤ b) : Frm F w (put4 w1 b v0 v1 v2 v3) := (((h.setCell _ _ hb).setCell _ _ hb).setCell _ _ hb).setCell _ _ hb
theorem put4_unf {w : World} {a : Option Addr} (h : Unf w a) (b : Nat) (v0 v1 v2 v3 : Value) : Unf (put4 w b v0 v1 v2 v3) a := (((h.setCell _ _).setCell _ _).setCell _ _).setCell _ _
theorem cells4 {w : World} {b : Nat} {v0 v1 v2 v3 : Value} {T : TypeId} (h : w.heap[b]? = some (.cells #[v0, v1, v2, v3] T)) : w.cell? ⟨b, 0, none⟩ = some v0 ∧ w.cell? ⟨b, 1, none⟩ = some v1 ∧ w.cell? ⟨b, 2, none⟩ = some v2 ∧ w.cell? ⟨b, 3, none⟩ = some v3 := by
 refine ⟨?_, ?_, ?_, ?_⟩ <;> (rw [Go.Joins.cell_of_block h]; rfl)
theorem cells1 {w : World} {b : Nat} {v0 : Value} {T : TypeId} (h : w.heap[b]? = some (.cells #[v0] T)) : w.cell? ⟨b, 0, none⟩ = some v0 := by
 rw [Go.Joins.cell_of_block h]; rfl
theorem vis_cells {w : World} {g s r : Nat} (h : w.heap[g]? = some (visO s r)) : w.cell? ⟨g, 0, none⟩ = some (.pointer (some ⟨s, 0, none⟩)) ∧ w.cell? ⟨g, 1, none⟩ = some (.int .i64 (r : Int)) ∧ w.cell? ⟨g, 2, none⟩ = some (.int .i64 0) ∧ ∀ i, w.frozen? ⟨g, i, none⟩ = false := by
 unfold visO at h;refine ⟨?_, ?_, ?_, fun i => ufb h i⟩ <;> (rw [Go.Joins.cell_of_block h]; rfl)
theorem told0_is (w : World) (s d : Nat) (st : ShS) (F : Nat → Prop) (h : Sto w s d st F) :
  Calls Tryz.prog 183 #[.pointer (some ⟨s, 0, none⟩), .int .i64 0] w fun e w' => e = .returned (.int .i64 0) ∧ w = w' := by
 go_enter Tryz.func183, Tryz.ntmps183;go_wp2_with fail;go_ret;exact ⟨rfl, rfl⟩
theorem readG_is (w : World) (d s : Nat) (dk : DkS) (st : ShS) (FD FS : Nat → Prop) (h : DS w d s dk st FD FS) (hu : st.up = true) (n : Int) (h1 : 2 ≤ n) (h2 : n < (dk.S.length : Int)) (he : rdE dk n = 0) :
  Calls Tryz.prog 161 #[.pointer (some ⟨s, 0, none⟩), .int .i64 n] w fun e w' => e = .returned (.tuple #[.int .i64 (rdK dk n), .string (rdT dk n), .int .i64 0]) ∧ Below w.heap.size w w' := by
 have SZ := Hd (stosize_is w s d st FS h.sto dk FD h.dk);have RD := Hd (pageRead_is w d dk FD h.dk n);have TD := Hd (fun w' (hb : Below w.heap.size w w') => told0_is w' s d st FS (h.sto.below hb));obtain ⟨f, g, hi, _⟩ := h.sto;obtain ⟨c0, c1, c2, c3, c4, c5, c6⟩ := hi.cells;rw [hu] at c6;rw [he] at RD;have h1' : ¬ n < 2 := by omega
 have h2' : ¬ (dk.S.length : Int) ≤ n := by omega
 clear h hi he;generalize rdK dk n = rk at *;generalize rdT dk n = rt at *;go_enter Tryz.func161, Tryz.ntmps161;go_wp2_with fail;refine SZ.out.mono ?_;rintro e w1 ⟨rfl, rfl⟩;go_wp2_with fail;refine RD.out.mono ?_;rintro e w2 ⟨rfl, b2⟩;have T2 := Hd (TD.out w2 b2);have B2 := Hd b2;clear b2;go_wp2_with fail;refine T2.out.mono ?_;rintro e w3 ⟨rfl, rfl⟩;go_wp2_with fail;go_ret3;exact ⟨rfl, B2.out⟩
theorem vnode_is (w : World) (d s g : Nat) (dk : DkS) (st : ShS) (r : Nat) (F : Nat → Prop) (h : TS w d s g dk st r F) (hu : st.up = true) (hr : r < 640) (p dp : Int) (hd : dp ≤ 10) (M : Nod) (hM : Rn dk p = some M) :
  Calls Tryz.prog 137 #[.pointer (some ⟨g, 0, none⟩), .int .i64 p, .int .i64 dp] w fun e w' => DecBackU w.heap.size M e w' ∧ TS w' d s g dk st (r + 1) F ∧ Frm (fun k => k = g) w w' := by
 obtain ⟨m1, m2, m3, m4, m5⟩ := Rn_read hM;have HL := Hd h.lt;obtain ⟨FD, FS, hi, he⟩ := h;obtain ⟨v0, v1, v2, vf⟩ := vis_cells hi.v;have vf1 := vf 1;have hg : g < w.heap.size := (Array.getElem?_eq_some_iff.1 hi.v).1;obtain ⟨wa, hwa⟩ : ∃ wa, (w.alloc (.cells #[.bool false, .slice none 0 0, .slice none 0 0, .slice none 0 0] 181)).setCell ⟨g, 1, none⟩ (.int .i64 ((r : Int) + 1)) = wa := ⟨_, rfl⟩
 have FA : Frm (fun k => k = g) w wa := by rw [← hwa]; exact ((Frm.refl _ w).alloc _).setCell _ _ (.inl rfl)
 have VA : wa.heap[g]? = some (visO s (r + 1)) := by
  rw [← hwa, heap_setCell_same _ _ 1 _ _ _ ((heap_alloc_old w _ hg).trans hi.v)]
  rfl
 have XA : wa.heap[w.heap.size]? = some (.cells #[.bool false, .slice none 0 0, .slice none 0 0, .slice none 0 0] 181) := by
  rw [← hwa, Below.heap_setCell _ _ _ _ (show w.heap.size ≠ (⟨g, 1, none⟩ : Addr).block from by show w.heap.size ≠ g; omega)];exact heap_alloc_new w _
 have DA : DS wa d s dk st FD FS := ⟨hi.ds.dk.frm FA (fun k hk e => hi.gd (e ▸ hk)), hi.ds.sto.frm FA (fun k hk e => hi.gs (e ▸ hk)), hi.ds.apart⟩
 have TA : TS wa d s g dk st (r + 1) F := ⟨FD, FS, ⟨DA, VA, hi.gd, hi.gs⟩, he⟩
 have RD := Hd (readG_is wa d s dk st FD FS DA hu p m1 m2 m3);have DE := Hd (fun w' => decode_anyU (rdT dk p) w');rw [m5] at DE;rw [m4] at RD;have HF := Hd FA;have HX := Hd XA;have HT := Hd TA;have hr1 : ((r : Int) == 640) = false := by rw [beq_eq_false_iff_ne]; omega
 have hd1 : ¬ (10 : Int) < dp := by omega
 have a0 : wa.cell? ⟨g, 0, none⟩ = some (.pointer (some ⟨s, 0, none⟩)) := (vis_cells VA).1;clear hi FA VA XA DA TA vf hM m1 m2 m3 m4 m5;generalize rdT dk p = tx at *;go_enter Tryz.func137, Tryz.ntmps137;go_wp2_with fail;refine RD.out.mono ?_;rintro e w1 ⟨rfl, b1⟩;have X1 := Hd (kept HX.out b1);have T1 := Hd (HT.out.below b1);have F1 : Hid (Frm (fun k => k = g) w w1) := Hd (HF.out.trans (G := fun _ => False) (Frm.of_below b1) (fun _ hx => hx.elim));clear b1;go_wp2_with fail;refine (DE.out w1).mono ?_;rintro e w2 ⟨⟨ak, av, ac, ck, cv, cc, rfl, hR, q1, q2, q3, u1, u2⟩, b2⟩
 have X2 := kept X1.out b2;obtain ⟨x0, x1, x2, x3⟩ := cells4 X2;have f0 := ufb X2 0;have f1 := ufb X2 1;have f2 := ufb X2 2;have f3 := ufb X2 3;have Y := put4_block X2 (.bool M.leaf) (.slice ak M.K.length ck) (.slice av M.V.length cv) (.slice ac M.C.length cc);have Z := Hd (cells4 Y);have h0 := F1.out.size;have hne : w.heap.size < w1.heap.size := (Array.getElem?_eq_some_iff.1 X1.out).1;have F2 : Frm (fun k => k = g) w w2 := F1.out.trans (G := fun _ => False) (Frm.of_below b2) (fun _ hx => hx.elim)
 have FIN : Hid (DecBackU w.heap.size M (.returned (.tuple #[nodV M ak av ac ck cv cc, .int .i64 0])) (put4 w2 w.heap.size (.bool M.leaf) (.slice ak M.K.length ck) (.slice av M.V.length cv) (.slice ac M.C.length cc)) ∧ TS (put4 w2 w.heap.size (.bool M.leaf) (.slice ak M.K.length ck) (.slice av M.V.length cv) (.slice ac M.C.length cc)) d s g dk st (r + 1) F ∧ Frm (fun k => k = g) w (put4 w2 w.heap.size (.bool M.leaf) (.slice ak M.K.length ck) (.slice av M.V.length cv) (.slice ac M.C.length cc))) := by
  refine Hd ⟨⟨ak, av, ac, ck, cv, cc, rfl, hR.set4 _ _ _ _ _ (fun x hx => by have := q1 x hx; omega) (fun x hx => by have := q2 x hx; omega) (fun x hx => by have := q3 x hx; omega), fun x hx => by have := q1 x hx; omega, fun x hx => by have := q2 x hx; omega, fun x hx => by have := q3 x hx; omega, put4_unf u1 _ _ _ _ _, put4_unf u2 _ _ _ _ _⟩, ?_, put4_frm F2 _ _ _ _ _ (.inr (Nat.le_refl _))⟩;refine (T1.out.below b2).frm (G := fun k => k = w.heap.size) (put4_frm (Frm.refl _ w2) _ _ _ _ _ (.inl rfl)) (fun k hk e => ?_);subst e;have := HL.out _ hk;omega
 unfold put4 at Z FIN;simp only [nodV] at FIN ⊢;clear hR q1 q2 q3 u1 u2 b2 X2 Y F2 h0 hne;go_wp2_with fail;exact bodyPost_ret (v := .tuple #[.agg #[.bool M.leaf, .slice ak M.K.length ck, .slice av M.V.length cv, .slice ac M.C.length cc], .int .i64 0]) (by simp [results, Tryz.results137, go_sem, Z.out.1, Z.out.2.1, Z.out.2.2.1, Z.out.2.2.2]) rfl FIN.out
structure StepV where
 p : Int
 i : Int
 fd : Bool
 lf : Bool
 ak : Option Addr
 lk : Nat
 ck : Nat
 av : Option Addr
 lv : Nat
 cv : Nat
 ac : Option Addr
 lc : Nat
 cc : Nat
def StepV.val (x : StepV) : Value := .agg #[.int .i64 x.p, .int .i64 x.i, .bool x.fd, .bool x.lf, .slice x.ak x.lk x.ck, .slice x.av x.lv x.cv, .slice x.ac x.lc x.cc]
def StepV.cells (x : StepV) : List Value := [.int .i64 x.p, .int .i64 x.i, .bool x.fd, .bool x.lf, .slice x.ak x.lk x.ck, .slice x.av x.lv x.cv, .slice x.ac x.lc x.cc]
theorem StepV.one (x : StepV) : ∀ u ∈ x.cells, u.oneCell' = true := by
 intro u hu;unfold StepV.cells at hu;simp only [List.mem_cons, List.not_mem_nil, or_false] at hu
 rcases hu with rfl | rfl | rfl | rfl | rfl | rfl | rfl <;> rfl
def rowsV (L : List StepV) : List Value := L.flatMap StepV.cells
theorem rowsV_len (L : List StepV) : (rowsV L).length = L.length * 7 := by
 induction L with
 | nil => rfl
 | cons x L ih => unfold rowsV at *; rw [List.flatMap_cons, List.length_append, ih, List.length_cons]; show 7 + _ = _; omega
theorem rowsV_snoc (L : List StepV) (x : StepV) : rowsV (L ++ [x]) = rowsV L ++ x.cells := by simp [rowsV]
def WF (b : Nat) (v : Value) (k : Nat) : Prop := k = b ∨ v.ownBlock = some k
structure WayIn (w : World) (b : Nat) (v : Value) (L : List StepV) : Prop where
 box : w.heap[b]? = some (.cells #[v] 177)
 own : w.ownsRow 0 183 7 v L.length (rowsV L)
 ne : v.ownBlock ≠ some b
def Way (w : World) (b : Nat) (L : List StepV) (F : Nat → Prop) : Prop := ∃ v, WayIn w b v L ∧ ∀ k, F k ↔ WF b v k
def WayPost (w : World) (b : Nat) (L : List StepV) (F : Nat → Prop) (w' : World) : Prop := ∃ F', Way w' b L F' ∧ Frm F w w' ∧ ∀ k, F' k → F k ∨ w.heap.size ≤ k
theorem own_frmZ {F : Nat → Prop} {w w' : World} {B : Nat} {e : TypeId} {z : Nat} {v : Value} {n : Nat} {xs : List Value} (h : w.ownsRow B e z v n xs) (hb : Frm F w w') (hF : ∀ k, v.ownBlock = some k → ¬ F k) : w'.ownsRow B e z v n xs := by
 refine ⟨h.1, ?_⟩
 rcases h.2 with hx | ⟨g, cap, cur, hv, hbg, hh, r⟩
 ·exact .inl hx
 ·exact .inr ⟨g, cap, cur, hv, hbg, (hb.block g (Array.getElem?_eq_some_iff.1 hh).1 (hF g (by rw [hv]; rfl))).trans hh, r⟩
theorem Way.lt {w : World} {b : Nat} {L : List StepV} {F : Nat → Prop} (h : Way w b L F) (k : Nat) (hk : F k) : k < w.heap.size := by
 obtain ⟨v, hi, he⟩ := h
 rcases (he k).1 hk with rfl | hx
 ·exact (Array.getElem?_eq_some_iff.1 hi.box).1
 ·exact (hi.own.lt k hx).2
theorem Way.frm {w w' : World} {b : Nat} {L : List StepV} {F G : Nat → Prop} (h : Way w b L F) (hf : Frm G w w') (hd : ∀ k, F k → ¬ G k) : Way w' b L F := by
 have hl := h.lt;obtain ⟨v, hi, he⟩ := h;have hb := (he b).2 (.inl rfl);exact ⟨v, ⟨(hf.block b (hl b hb) (hd b hb)).trans hi.box, own_frmZ hi.own hf (fun k hk => hd k ((he k).2 (.inr hk))), hi.ne⟩, he⟩
theorem Way.below {w w' : World} {b : Nat} {L : List StepV} {F : Nat → Prop} (h : Way w b L F) (hb : Below w.heap.size w w') : Way w' b L F :=
 h.frm (G := fun _ => False) (Frm.of_below hb) fun _ _ hx => hx
theorem own_shape7 {w : World} {B : Nat} {e : TypeId} {z : Nat} {v : Value} {n : Nat} {xs : List Value} (h : w.ownsRow B e z v n xs) : ∃ a c, v = .slice a n c ∧ n ≤ c ∧ c ≤ maxLen := by
 rcases h.2 with ⟨h1, h2⟩ | ⟨g, cap, cur, h1, h2, h3, h4, h5, _⟩
 ·exact ⟨none, 0, by rw [h1, h2], by omega, Nat.zero_le _⟩
 ·exact ⟨_, cap, h1, h4, h5⟩
theorem info_step : (Tryz.prog.info? 183).map (fun i => (i.zero, i.size, i.bytes)) = some (some (.agg #[.int .i64 0, .int .i64 0, .bool false, .bool false, .slice none 0 0, .slice none 0 0, .slice none 0 0]), 7, 104) := by kernel_rfl
theorem append7 (w : World) (v : Value) (L : List StepV) (hown : w.ownsRow 0 183 7 v L.length (rowsV L)) (r : Nat) (x : StepV) (hr : w.heap[r]? = some (.cells x.cells.toArray 183)) (hn : L.length ≤ 1000) :
  ∃ v' w' k, (Builtin.append_ #[175, 175] 175 #[v, .slice (some ⟨r, 0, none⟩) 1 1]).run Tryz.prog w = .ok v' w' ∧ w'.ownsRow 0 183 7 v' (L ++ [x]).length (rowsV (L ++ [x])) ∧ w.grownBy w' v.ownBlock ∧ v'.ownBlock = some k ∧ (v.ownBlock = some k ∨ k = w.heap.size) := by
 obtain ⟨i, hi, hz0, hz1, hz2⟩ := info_parts info_step
 have hnews : ∀ j u, x.cells[j]? = some u → w.cell? ((⟨r, 0, none⟩ : Addr).add j) = some u := by
  intro j u hj;rw [addr_add, Go.Joins.cell_of_block hr]
  simpa using hj
 have hl : x.cells.length = 1 * 7 := rfl;have hown0 := hown;obtain ⟨v', w', hrr, ho, hg, _⟩ := run_append_own (P := Tryz.prog) w 0 175 175 183 i _ 7 104 Tryz.underlying175 hi hz0 hz1 hz2 rfl (by decide) v L.length _ hown ⟨r, 0, none⟩ 1 1 x.cells hl hnews x.one (by simp only [maxLen]; omega) (by omega) (Nat.zero_le _);refine ⟨v', w', ?_⟩
 have hk : ∃ k, v'.ownBlock = some k ∧ (v.ownBlock = some k ∨ k = w.heap.size) := by
  rcases hown.2 with ⟨rfl, h0⟩ | ⟨g, cap, cur, rfl, _, hgg, hnc, hcm, hcs, htake⟩
  ·have h2 := run_append_nil (P := Tryz.prog) w 175 175 183 i _ Tryz.underlying175 hi hz0 ⟨r, 0, none⟩ 1 1 x.cells (by rw [hz1]; rfl) hnews (by decide) (by decide) (by rw [hz2]; decide)
   rw [hrr] at h2;injection h2 with h3 h4;exact ⟨w.heap.size, by rw [h3]; rfl, .inr rfl⟩
  ·by_cases hroom : L.length + 1 ≤ cap
   ·have h2 := run_append_room (P := Tryz.prog) w 175 175 183 i Tryz.underlying175 hi g L.length cap cur hgg ⟨r, 0, none⟩ 1 1 x.cells (by rw [hz1]; rfl) hnews x.one hroom (by rw [hcs, hz1]; show _ + 7 ≤ _; omega)
    rw [hrr] at h2;injection h2 with h3 h4;exact ⟨g, by rw [h3]; rfl, .inl rfl⟩
   ·have holds : ∀ j u, (rowsV L)[j]? = some u → w.cell? ((⟨g, 0, none⟩ : Addr).add j) = some u := hown0.cells (g := g) rfl
    have h2 := run_append_grow (P := Tryz.prog) w 175 175 183 i _ Tryz.underlying175 hi hz0 ⟨g, 0, none⟩ L.length cap (rowsV L) (by rw [hown.1, hz1]) holds ⟨r, 0, none⟩ 1 1 x.cells (by rw [hz1]; rfl) hnews (by omega) (by omega) (growslice_fits (by omega) (by rw [hz2]; omega));rw [hrr] at h2;injection h2 with h3 h4;exact ⟨w.heap.size, by rw [h3]; rfl, .inr rfl⟩
 obtain ⟨k, h1, h2⟩ := hk;refine ⟨k, hrr, ?_, hg, h1, h2⟩;rw [rowsV_snoc, List.length_append, List.length_singleton];exact ho
theorem way_depth (w : World) (b : Nat) (L : List StepV) (F : Nat → Prop) (h : Way w b L F) :
  Calls Tryz.prog 145 #[.pointer (some ⟨b, 0, none⟩)] w fun e w' => e = .returned (.int .i64 (L.length : Int)) ∧ w = w' := by
 obtain ⟨v, hi, _⟩ := h;obtain ⟨a, c, rfl, _, _⟩ := own_shape7 hi.own;have c0 := cells1 hi.box;clear hi;generalize L.length = n at *;go_enter Tryz.func145, Tryz.ntmps145;go_wp2_with fail;go_ret;exact ⟨rfl, rfl⟩
theorem way_push (w : World) (b : Nat) (L : List StepV) (F : Nat → Prop) (h : Way w b L F) (x : StepV) (hn : L.length ≤ 1000) :
  Calls Tryz.prog 147 #[.pointer (some ⟨b, 0, none⟩), x.val] w (Void (WayPost w b (L ++ [x]) F)) := by
 have hbl := h.lt;obtain ⟨v, hi, he⟩ := h;obtain ⟨va, vc, rfl, hv1, hv2⟩ := own_shape7 hi.own;obtain ⟨w0, hw0⟩ : ∃ w0, w.alloc (.cells #[.int .i64 x.p, .int .i64 x.i, .bool x.fd, .bool x.lf, .slice x.ak x.lk x.ck, .slice x.av x.lv x.cv, .slice x.ac x.lc x.cc] 183) = w0 := ⟨_, rfl⟩
 have hb0 : b < w.heap.size := hbl b ((he b).2 (.inl rfl));have z0 : w0.heap.size = w.heap.size + 1 := by rw [← hw0]; simp
 have HB0 : Hid (w0.heap[b]? = some (.cells #[.slice va L.length vc] 177)) := Hd (by rw [← hw0]; exact (heap_alloc_old w _ hb0).trans hi.box);have HX0 : Hid (w0.heap[w.heap.size]? = some (.cells #[.int .i64 x.p, .int .i64 x.i, .bool x.fd, .bool x.lf, .slice x.ak x.lk x.ck, .slice x.av x.lv x.cv, .slice x.ac x.lc x.cc] 183)) := Hd (by rw [← hw0]; exact heap_alloc_new w _);have B0 : Below w.heap.size w w0 := by rw [← hw0]; exact (Below.refl _ w).alloc (Nat.le_refl _) _
 have W0 : Way w0 b L F := Way.below ⟨_, hi, he⟩ B0;have nog : ∀ k, (Value.slice va L.length vc).ownBlock = some k → k < w.heap.size := fun k hk => hbl k ((he k).2 (.inr hk))
 have PUSH : Hid (∃ v' w6, (Builtin.append_ #[175, 175] 175 #[.slice va L.length vc, .slice (some ⟨w0.heap.size, 0, none⟩) 1 1]).run Tryz.prog (w0.drew.alloc (.cells #[.int .i64 x.p, .int .i64 x.i, .bool x.fd, .bool x.lf, .slice x.ak x.lk x.ck, .slice x.av x.lv x.cv, .slice x.ac x.lc x.cc] 183)) = .ok v' w6 ∧ Frm (fun k => (Value.slice va L.length vc).ownBlock = some k) w0 w6 ∧ w6.heap[b]? = some (.cells #[.slice va L.length vc] 177) ∧ WayPost w b (L ++ [x]) F (w6.setCell ⟨b, 0, none⟩ v') ∧ ∃ va' vc', v' = .slice va' (L.length + 1) vc') := Hd (by
  have hown1 : (w0.drew.alloc (.cells #[.int .i64 x.p, .int .i64 x.i, .bool x.fd, .bool x.lf, .slice x.ak x.lk x.ck, .slice x.av x.lv x.cv, .slice x.ac x.lc x.cc] 183)).ownsRow 0 183 7 (.slice va L.length vc) L.length (rowsV L) := by
   have : Frm (fun _ => False) w (w0.drew.alloc (.cells #[.int .i64 x.p, .int .i64 x.i, .bool x.fd, .bool x.lf, .slice x.ak x.lk x.ck, .slice x.av x.lv x.cv, .slice x.ac x.lc x.cc] 183)) := ((Frm.of_below B0).drew).alloc _;exact own_frmZ hi.own this (fun _ _ hx => hx)
  obtain ⟨v', w6, k, q1, q2, q3, q4, q5⟩ := append7 _ _ L hown1 w0.heap.size x (heap_alloc_new w0.drew _) hn;have hF6 : Frm (fun k => (Value.slice va L.length vc).ownBlock = some k) w0 w6 := ((Frm.refl _ w0).drew.alloc _).grown q3 (fun k hk => .inl hk);have hbx : w6.heap[b]? = some (.cells #[.slice va L.length vc] 177) := (hF6.block b (by omega) hi.ne).trans HB0.out
  have hkb : k ≠ b := by
   intro e; subst e
   rcases q5 with q5 | q5
   ·exact hi.ne q5
   ·rw [World.size_alloc] at q5
    have : w0.drew.heap.size = w0.heap.size := rfl;omega
  refine ⟨v', w6, q1, hF6, hbx, ?_, ?_⟩
  ·have hown6 : (w6.setCell ⟨b, 0, none⟩ v').ownsRow 0 183 7 v' (L ++ [x]).length (rowsV (L ++ [x])) := own_frmZ (F := fun j => j = b) q2 ((Frm.refl _ w6).setCell _ _ (.inl rfl)) (fun j hj e => by rw [q4] at hj; injection hj with hj; exact hkb (hj.trans e))
   have hFw : Frm F w (w6.setCell ⟨b, 0, none⟩ v') := by
    have f1 : Frm F w w0 := Frm.of_below B0;have f2 : Frm F w w6 := f1.trans hF6 (fun j hj => .inl ((he j).2 (.inr hj)));exact f2.setCell _ _ (.inl ((he b).2 (.inl rfl)))
   refine ⟨WF b v', ⟨v', ⟨?_, hown6, by rw [q4]; exact fun e => hkb (Option.some.inj e)⟩, fun _ => Iff.rfl⟩, hFw, fun j hj => ?_⟩
   ·rw [heap_setCell_same _ _ 0 _ _ _ hbx]; rfl
   ·rcases hj with rfl | hj
    ·exact .inl ((he _).2 (.inl rfl))
    ·rw [q4] at hj; injection hj with hj; subst hj
     rcases q5 with q5 | q5
     ·exact .inl ((he _).2 (.inr q5))
     ·rw [World.size_alloc] at q5
      have : w0.drew.heap.size = w0.heap.size := rfl;exact .inr (by omega)
  ·obtain ⟨a, c, e, _⟩ := own_shape7 q2
   exact ⟨a, c, by rw [e, List.length_append, List.length_singleton]⟩)
 have HLb : Hid (b < w0.heap.size) := Hd (by omega);have HLx : Hid (w.heap.size < w0.heap.size) := Hd (by omega);have nob : Hid (¬ (Value.slice va L.length vc).ownBlock = some b) := Hd hi.ne;have nox : Hid (¬ (Value.slice va L.length vc).ownBlock = some w.heap.size) := Hd (fun e => by have := nog _ e; omega);clear hi he W0 B0 hbl nog hb0 z0;unfold StepV.val;go_enter Tryz.func147, Tryz.ntmps147;go_upto_region 1 with fail
 try rw [hw0]
 clear hw0;obtain ⟨v', w6, hap, hF6, hb6, hpost, va', vc', hv'⟩ := PUSH.out;subst hv';have HAP := Hd hap;have F6H := Hd hF6;have POST := Hd hpost;have y0 := cells1 hb6;have f0 := ufb hb6 0;clear hap hF6 hb6 hpost PUSH;refine region_ways (fun w' => Frm (fun k => (Value.slice va L.length vc).ownBlock = some k) w0 w') 10 (by kernel_rfl) ?_;have hS := ((Frm.refl (fun k => (Value.slice va L.length vc).ownBlock = some k) w0).drew)
 refine Wsd 0 4 ?v0 hS ?h0 ?r0
 case h0 =>
  intro w9;go_simp;try (with_reducible rfl)
 simp only [SL];refine Wsd 1 5 ?v1 hS ?h1 ?r1
 case h1 =>
  intro w9;go_simp;try (with_reducible rfl)
 simp only [SL];refine Wsd 2 6 ?v2 hS ?h2 ?r2
 case h2 =>
  intro w9;go_simp;try (with_reducible rfl)
 simp only [SL];refine Wsd 3 7 ?v3 hS ?h3 ?r3
 case h3 =>
  intro w9;go_simp;try (with_reducible rfl)
 simp only [SL];refine Wtd 4 8 ?v4 hS ?h4 ?r4
 case h4 =>
  intro w9 s9;have cN : w9.cell? ⟨b, 0, none⟩ = some (.slice va L.length vc) := cells1 ((s9.block _ HLb.out nob.out).trans HB0.out);go_simp;try (with_reducible rfl)
 simp only [SL];refine Wtd 5 9 ?v5 hS ?h5 ?r5
 case h5 =>
  intro w9 s9;have cN0 := cl ((s9.block _ HLx.out nox.out).trans HX0.out) 0 rfl;have cN1 := cl ((s9.block _ HLx.out nox.out).trans HX0.out) 1 rfl;have cN2 := cl ((s9.block _ HLx.out nox.out).trans HX0.out) 2 rfl;have cN3 := cl ((s9.block _ HLx.out nox.out).trans HX0.out) 3 rfl;have cN4 := cl ((s9.block _ HLx.out nox.out).trans HX0.out) 4 rfl;have cN5 := cl ((s9.block _ HLx.out nox.out).trans HX0.out) 5 rfl;have cN6 := cl ((s9.block _ HLx.out nox.out).trans HX0.out) 6 rfl;go_simp;try (with_reducible rfl)
 simp only [SL];refine Wp 6 (fun K HK => ?_);go_simp;have hS6 := hS.alloc (.cells #[.int .i64 x.p, .int .i64 x.i, .bool x.fd, .bool x.lf, .slice x.ak x.lk x.ck, .slice x.av x.lv x.cv, .slice x.ac x.lc x.cc] 183);clear hS;have hS := hS6;clear hS6;refine HK.out _ _ ?_ (fun _ => hS);clear HK K;try simp only [Act.put, SL]
 refine Wp 7 (fun K HK => ?_);refine step_append_rund (by rfl) 11 (by rfl) (.tmp 8) (.tmp 10) 175 (by rfl) _ _ _ (by rfl) (by rfl) HAP.out ?_;clear hS HAP;have hS := F6H.out;refine HK.out _ _ ?_ (fun _ => hS);clear HK K;try simp only [Act.put, SL]
 refine Wsd 8 12 ?v8 hS ?h8 ?r8
 case h8 =>
  intro w9;go_simp;try (with_reducible rfl)
 simp only [SL];refine Wsd 9 13 ?v9 hS ?h9 ?r9
 case h9 =>
  intro w9;go_simp;try (with_reducible rfl)
 simp only [SL];refine Wp 10 (fun K HK => ?_);go_simp;refine HK.out _ _ ?_ (fun h => absurd rfl h);clear HK K;refine ways_done (by kernel_rfl) ?_;clear hS y0 f0;go_wp2_with fail
 go_end0
 exact ⟨rfl, POST.out⟩
def put7 (w : World) (b : Nat) (x : StepV) : World := ((((((w.setCell ⟨b, 0, none⟩ (.int .i64 x.p)).setCell ⟨b, 1, none⟩ (.int .i64 x.i)).setCell ⟨b, 2, none⟩ (.bool x.fd)).setCell ⟨b, 3, none⟩ (.bool x.lf)).setCell ⟨b, 4, none⟩ (.slice x.ak x.lk x.ck)).setCell ⟨b, 5, none⟩ (.slice x.av x.lv x.cv)).setCell ⟨b, 6, none⟩ (.slice x.ac x.lc x.cc)
theorem put7_block {w : World} {b : Nat} {a0 a1 a2 a3 a4 a5 a6 : Value} {T : TypeId} (h : w.heap[b]? = some (.cells #[a0, a1, a2, a3, a4, a5, a6] T)) (x : StepV) : (put7 w b x).heap[b]? = some (.cells #[.int .i64 x.p, .int .i64 x.i, .bool x.fd, .bool x.lf, .slice x.ak x.lk x.ck, .slice x.av x.lv x.cv, .slice x.ac x.lc x.cc] T) := by
 unfold put7;rw [heap_setCell_same _ _ 6 _ _ _ (heap_setCell_same _ _ 5 _ _ _ (heap_setCell_same _ _ 4 _ _ _ (heap_setCell_same _ _ 3 _ _ _ (heap_setCell_same _ _ 2 _ _ _ (heap_setCell_same _ _ 1 _ _ _ (heap_setCell_same _ _ 0 _ _ _ h))))))]
 rfl
theorem put7_frm {F : Nat → Prop} {w w1 : World} (h : Frm F w w1) (b : Nat) (x : StepV) (hb : F b ∨ w.heap.size ≤ b) : Frm F w (put7 w1 b x) := ((((((h.setCell _ _ hb).setCell _ _ hb).setCell _ _ hb).setCell _ _ hb).setCell _ _ hb).setCell _ _ hb).setCell _ _ hb
theorem cells7 {w : World} {b : Nat} {v0 v1 v2 v3 v4 v5 v6 : Value} {T : TypeId} (h : w.heap[b]? = some (.cells #[v0, v1, v2, v3, v4, v5, v6] T)) : w.cell? ⟨b, 0, none⟩ = some v0 ∧ w.cell? ⟨b, 1, none⟩ = some v1 ∧ w.cell? ⟨b, 2, none⟩ = some v2 ∧ w.cell? ⟨b, 3, none⟩ = some v3 ∧ w.cell? ⟨b, 4, none⟩ = some v4 ∧ w.cell? ⟨b, 5, none⟩ = some v5 ∧ w.cell? ⟨b, 6, none⟩ = some v6 := by
 refine ⟨?_, ?_, ?_, ?_, ?_, ?_, ?_⟩ <;> (rw [Go.Joins.cell_of_block h]; rfl)
theorem way_pop (w : World) (b : Nat) (L : List StepV) (x : StepV) (F : Nat → Prop) (h : Way w b (L ++ [x]) F) :
  Calls Tryz.prog 123 #[.pointer (some ⟨b, 0, none⟩)] w fun e w' => e = .returned x.val ∧ Way w' b L F ∧ Frm (fun k => k = b) w w' := by
 have hbl := h.lt;obtain ⟨v, hi, he⟩ := h;obtain ⟨va, vc, rfl, hv1, hv2⟩ := own_shape7 hi.own;rw [List.length_append, List.length_singleton] at hi hv1;have hb0 : b < w.heap.size := hbl b ((he b).2 (.inl rfl))
 obtain ⟨g, cap, cur, hg1, _, hg3, hg4, hg5, hg6, hg7⟩ : ∃ g cap cur, (Value.slice va (L.length + 1) vc) = .slice (some ⟨g, 0, none⟩) (L.length + 1) cap ∧ 0 ≤ g ∧ w.heap[g]? = some (.cells cur 183 (0, 0)) ∧ L.length + 1 ≤ cap ∧ cap ≤ maxLen ∧ cur.size = cap * 7 ∧ cur.toList.take ((L.length + 1) * 7) = rowsV (L ++ [x]) := by
  have ho := hi.own;rw [List.length_append, List.length_singleton] at ho
  rcases ho.2 with ⟨_, h0⟩ | hx
  ·omega
  ·exact hx
 injection hg1 with e1 e2 e3;subst e1 e3;have hgb : g ≠ b := fun e => hi.ne (by rw [← e]; rfl)
 have hgl : g < w.heap.size := (Array.getElem?_eq_some_iff.1 hg3).1
 have rows : ∀ k u, x.cells[k]? = some u → w.cell? ⟨g, L.length * 7 + k, none⟩ = some u := by
  intro k u hk;have hk7 : k < 7 := by have := (List.getElem?_eq_some_iff.1 hk).1; exact this
  have e : (rowsV (L ++ [x]))[L.length * 7 + k]? = some u := by
   rw [rowsV_snoc, List.getElem?_append_right (by rw [rowsV_len]; omega), rowsV_len];rw [show L.length * 7 + k - L.length * 7 = k by omega]; exact hk
  rw [← hg7, List.getElem?_take, if_pos (by omega)] at e;rw [Go.Joins.cell_of_block hg3]
  simpa using e
 have r0 : w.cell? ⟨g, L.length * 7, none⟩ = some (.int .i64 x.p) := rows 0 _ rfl;have r1 := rows 1 _ rfl;have r2 := rows 2 _ rfl;have r3 := rows 3 _ rfl;have r4 := rows 4 _ rfl;have r5 := rows 5 _ rfl;have r6 := rows 6 _ rfl;have c0 := cells1 hi.box;have f0 := ufb hi.box 0
 have own' : w.ownsRow 0 183 7 (.slice (some ⟨g, 0, none⟩) L.length vc) L.length (rowsV L) := by
  refine ⟨by rw [rowsV_len], .inr ⟨g, vc, cur, rfl, Nat.zero_le _, hg3, by omega, hg5, hg6, ?_⟩⟩;have := congrArg (List.take (L.length * 7)) hg7;rw [List.take_take, rowsV_snoc, show min (L.length * 7) ((L.length + 1) * 7) = L.length * 7 by omega, List.take_append_of_le_length (by rw [rowsV_len]; exact Nat.le_refl _), List.take_of_length_le (l := rowsV L) (by rw [rowsV_len]; exact Nat.le_refl _)] at this;exact this
 have HB := Hd hi.box;have FIN : Hid (∀ wz, Frm (fun k => k = b) w wz → wz.heap[b]? = some (.cells #[.slice (some ⟨g, 0, none⟩) L.length vc] 177) → Way wz b L F) := Hd (fun wz hf hb => ⟨_, ⟨hb, own_frmZ own' hf (fun k hk e => by injection hk with hk; exact hgb (hk.trans e)), fun e => hgb (Option.some.inj e)⟩, fun k => (he k).trans Iff.rfl⟩);clear hi he own' rows hg3 hg6 hg7 hbl;generalize L.length = n at *;have hnx : n + 1 ≤ maxLen := by omega
 have hnm : n ≤ 9223372036854775807 := by simp only [maxLen] at hnx; omega
 have hn0 : wrap64 (n : Int) = (n : Int) := by simp only [wrap64]; omega
 have hn1 : ¬ ((n : Int) < 0) := by omega
 have hn2 : (n : Int) < (n : Int) + 1 := by omega
 have hn3 : (n : Int) ≤ (vc : Int) := by omega
 unfold StepV.val;go_enter Tryz.func123, Tryz.ntmps123;go_upto_region 2 with fail
 obtain ⟨w1, hw1⟩ : ∃ w1, w.alloc (.cells #[.int .i64 0, .int .i64 0, .bool false, .bool false, .slice none 0 0, .slice none 0 0, .slice none 0 0] 183) = w1 := ⟨_, rfl⟩
 have B1 : Below w.heap.size w w1 := by rw [← hw1]; exact (Below.refl _ w).alloc (Nat.le_refl _) _
 have z1 : w1.heap.size = w.heap.size + 1 := by rw [← hw1]; simp
 have X1 : w1.heap[w.heap.size]? = some (.cells #[.int .i64 0, .int .i64 0, .bool false, .bool false, .slice none 0 0, .slice none 0 0, .slice none 0 0] 183) := by rw [← hw1]; exact heap_alloc_new w _
 have q0 := (B1.cell (p := ⟨g, n * 7, none⟩) hgl).trans r0;have q1 := (B1.cell (p := ⟨g, n * 7 + 1, none⟩) hgl).trans r1;have q2 := (B1.cell (p := ⟨g, n * 7 + 2, none⟩) hgl).trans r2;have q3 := (B1.cell (p := ⟨g, n * 7 + 3, none⟩) hgl).trans r3;have q4 := (B1.cell (p := ⟨g, n * 7 + 4, none⟩) hgl).trans r4;have q5 := (B1.cell (p := ⟨g, n * 7 + 5, none⟩) hgl).trans r5;have q6 := (B1.cell (p := ⟨g, n * 7 + 6, none⟩) hgl).trans r6;have qc := (B1.cell (p := ⟨b, 0, none⟩) hb0).trans c0;have qb := (B1.block b hb0).trans HB.out;rw [hw1];clear hw1 r0 r1 r2 r3 r4 r5 r6 c0 f0;go_upto_region 3 with fail
 obtain ⟨w2, hw2⟩ : ∃ w2, w1.alloc (.cells #[.int .i64 x.p, .int .i64 x.i, .bool x.fd, .bool x.lf, .slice x.ak x.lk x.ck, .slice x.av x.lv x.cv, .slice x.ac x.lc x.cc] 183) = w2 := ⟨_, rfl⟩
 have B2 : Below w.heap.size w w2 := by rw [← hw2]; exact B1.alloc B1.size _
 have X2 : w2.heap[w.heap.size]? = some (.cells #[.int .i64 0, .int .i64 0, .bool false, .bool false, .slice none 0 0, .slice none 0 0, .slice none 0 0] 183) := by rw [← hw2]; exact (heap_alloc_old w1 _ (by omega)).trans X1
 have Y2 : w2.heap[w.heap.size + 1]? = some (.cells #[.int .i64 x.p, .int .i64 x.i, .bool x.fd, .bool x.lf, .slice x.ak x.lk x.ck, .slice x.av x.lv x.cv, .slice x.ac x.lc x.cc] 183) := by rw [← hw2, ← z1]; exact heap_alloc_new w1 _
 have D2 : w2.heap[b]? = some (.cells #[.slice (some ⟨g, 0, none⟩) (n + 1) vc] 177) := by rw [← hw2]; exact (heap_alloc_old w1 _ (by omega)).trans qb
 have qc2 := cells1 D2;have f2 := ufb D2 0;rw [hw2];clear hw2 q0 q1 q2 q3 q4 q5 q6 qc qb B1 X1;go_upto_region 4 with fail
 obtain ⟨w3, hw3⟩ : ∃ w3, w2.setCell ⟨b, 0, none⟩ (.slice (some ⟨g, 0, none⟩) n vc) = w3 := ⟨_, rfl⟩
 have hbk : ∀ k, b ≠ k → (w2.setCell ⟨b, 0, none⟩ (.slice (some ⟨g, 0, none⟩) n vc)).heap[k]? = w2.heap[k]? := fun k hk => Below.heap_setCell _ _ _ _ (fun e => hk e.symm)
 have X3 := (hbk w.heap.size (by omega)).trans X2;have Y3 := (hbk (w.heap.size + 1) (by omega)).trans Y2;have D3 : (w2.setCell ⟨b, 0, none⟩ (.slice (some ⟨g, 0, none⟩) n vc)).heap[b]? = some (.cells #[.slice (some ⟨g, 0, none⟩) n vc] 177) := by rw [heap_setCell_same _ _ 0 _ _ _ D2]; rfl
 have F3 : Frm (fun k => k = b) w (w2.setCell ⟨b, 0, none⟩ (.slice (some ⟨g, 0, none⟩) n vc)) := (Frm.of_below B2).setCell _ _ (.inl rfl);rw [hw3] at X3 Y3 D3 F3;rw [hw3];clear hbk hw3 X2 Y2 D2 qc2 f2 B2;obtain ⟨y0, y1, y2, y3, y4, y5, y6⟩ := cells7 Y3;have g0 := ufb X3 0;have g1 := ufb X3 1;have g2 := ufb X3 2;have g3 := ufb X3 3;have g4 := ufb X3 4;have g5 := ufb X3 5;have g6 := ufb X3 6;obtain ⟨i0, i1, i2, i3, i4, i5, i6⟩ := cells7 X3;have Z := Hd (cells7 (put7_block X3 x))
 have D4 : (put7 w3 w.heap.size x).heap[b]? = some (.cells #[.slice (some ⟨g, 0, none⟩) n vc] 177) := by
  have hne : ∀ i, b ≠ (⟨w.heap.size, i, none⟩ : Addr).block := fun i => by show b ≠ w.heap.size; omega
  unfold put7;rw [Below.heap_setCell _ _ _ _ (hne 6), Below.heap_setCell _ _ _ _ (hne 5), Below.heap_setCell _ _ _ _ (hne 4), Below.heap_setCell _ _ _ _ (hne 3), Below.heap_setCell _ _ _ _ (hne 2), Below.heap_setCell _ _ _ _ (hne 1), Below.heap_setCell _ _ _ _ (hne 0)];exact D3
 have F4 : Frm (fun k => k = b) w (put7 w3 w.heap.size x) := put7_frm F3 _ _ (.inr (Nat.le_refl _));have END : Hid (Way (put7 w3 w.heap.size x) b L F ∧ Frm (fun k => k = b) w (put7 w3 w.heap.size x)) := Hd ⟨FIN.out _ F4 D4, F4⟩;clear D4 F4 F3 D3 X3 Y3 FIN;unfold put7 at Z END;go_wp2_with fail
 exact bodyPost_ret (v := .agg #[.int .i64 x.p, .int .i64 x.i, .bool x.fd, .bool x.lf, .slice x.ak x.lk x.ck, .slice x.av x.lv x.cv, .slice x.ac x.lc x.cc]) (by simp [results, Tryz.results123, go_sem, Z.out.1, Z.out.2.1, Z.out.2.2.1, Z.out.2.2.2.1, Z.out.2.2.2.2.1, Z.out.2.2.2.2.2.1, Z.out.2.2.2.2.2.2]) rfl ⟨rfl, END.out⟩
end Go.Proofs.YthcejfnngkmojaaGreatDoor
