/-
 TrX, TrZ, TrTp, TrTg, TrSa.
-/
import Derived.Test.YtmomlhiokggfbaaGreatDoorL15
import Derived.Test.YtmomlhiokggfbaaGreatDoorL01
import Derived.Test.YtmomlhiokggfbaaGreatDoorL02
namespace Go.Proofs.YtmomlhiokggfbaaGreatDoor
open Go.RowKit
set_option maxRecDepth 20000
set_option maxHeartbeats 12800000
set_option linter.unusedVariables false
set_option linter.unusedSimpArgs false
theorem two_ok (g1 g2 g3 : Int) (h1 : 2 ≤ g1 ∧ g1 < 640) (h2 : 2 ≤ g2 ∧ g2 < 640) (h3 : 0 ≤ g3 ∧ g3 ≤ 18446744073709551615) : NodOk ⟨false, [g3], [], [g1, g2]⟩ := by
 refine ⟨by simp, by simp, by simp, fun x hx => ?_, fun x hx => (by cases hx), fun x hx => ?_⟩
 ·rw [List.mem_singleton] at hx; subst hx; exact h3
 ·simp only [List.mem_cons, List.not_mem_nil, or_false] at hx
  rcases hx with rfl | rfl <;> omega
theorem two_right (g1 g2 g3 : Int) (h1 : 2 ≤ g1 ∧ g1 < 640) (h2 : 2 ≤ g2 ∧ g2 < 640) : rightN ⟨false, [g3], [], [g1, g2]⟩ = true := by
 refine (rightN_iff _).2 ⟨(plainB_iff _).2 ⟨fun i hi => by simp at hi, fun x hx => (by cases hx), fun x hx => ?_⟩, rfl, fun hx => (by cases hx), by simp [sizeN]⟩;simp only [List.mem_cons, List.not_mem_nil, or_false] at hx
 rcases hx with rfl | rfl
 ·exact h1
 ·exact h2
theorem vput_some (w : World) (d s g : Nat) (dk : DkS) (st : ShS) (r : Nat) (F : Nat → Prop) (h : TS w d s g dk st r F) (G : Good dk st) (root : Int) (h0 : root ≠ 0) (H : Nat) (F0 : List Mk) (P0 : List Int) (ht : IsT (Rn dk) H root F0 P0) (hs : SortM F0) (hl : LiveL st P0) (hH : H ≤ 9) (hr : r + H + 1 ≤ 640) (hroom : Room dk st (2 * H + 3)) (key : Int) (hk : 0 ≤ key ∧ key ≤ 18446744073709551615) (val : ByteArray) (hv : val.size ≤ 40) :
  Calls Tryz.prog 45 #[.pointer (some ⟨g, 0, none⟩), .int .i64 root, .int .u64 key, .string val] w (PutT w d s g dk st F (insE key val (entsM F0)) (2 * H + 3)) := by
 have HL := Hd h.lt;have hg : F g := by obtain ⟨_, _, _, he⟩ := h; exact (he g).2 (.inr (.inr rfl))
 have DN := Hd (down_is w d s g dk st r F h G root H F0 P0 ht hs hH hr key hk);have h0' : (root == 0) = false := by rw [beq_eq_false_iff_ne]; exact h0
 have HG := Hd G;have HS := Hd hs;have HLV := Hd hl;have HRM := Hd hroom;have HV := Hd hv;have HKB := Hd hk;clear h G h0 ht hs hl hr hroom hv hk;go_enter Tryz.func45, Tryz.ntmps45;go_wp2_with fail;refine DN.out.mono ?_;rintro e w1 ⟨v, fs, xs, x, M, i, fd, FL, FR, Fh, PC, hi, rfl, hD⟩;obtain ⟨va, vc, rfl, _, _⟩ := own_shape7 hD.own;obtain ⟨vn, hvn⟩ : ∃ vn, (xs.reverse ++ [x]).length = vn := ⟨_, rfl⟩
 have W2 : Way (w1.alloc (.cells #[.slice va (xs.reverse ++ [x]).length vc] 92)) w1.heap.size (xs.reverse ++ [x]) (WF w1.heap.size (.slice va (xs.reverse ++ [x]).length vc)) :=
  ⟨_, ⟨han w1 _, own_frmZ (F := fun _ => False) hD.own ((Frm.refl _ w1).alloc _) (fun _ _ hx => hx), fun e => by have := (hD.own.lt _ e).2; omega⟩, fun _ => Iff.rfl⟩
 have hxl : xs.length = H := by rw [StepsA.len _ _ _ hD.st]; exact hD.ln
 have PO := Hd (way_pop _ w1.heap.size xs.reverse x _ W2);have HD := Hd hD;rw [hvn] at PO HD ⊢;clear hD W2 hvn hxl;go_wp2_with fail;refine PO.out.mono ?_;rintro e w3 ⟨rfl, hw3, hf3⟩;have hP := popS_of HL.out hg HD.out hw3 hf3;unfold StepV.val;go_upto_region 7 with fail
 rename_i KK hKK;obtain ⟨w4, hw4⟩ : ∃ w4, w3.alloc (.cells #[.int .i64 x.p, .int .i64 x.i, .bool x.fd, .bool x.lf, .slice x.ak x.lk x.ck, .slice x.av x.lv x.cv, .slice x.ac x.lc x.cc] 99) = w4 := ⟨_, rfl⟩
 obtain ⟨bs, hbs⟩ : ∃ bs, w3.heap.size = bs := ⟨_, rfl⟩
 obtain ⟨bw, hbw⟩ : ∃ bw, w1.heap.size = bw := ⟨_, rfl⟩
 rw [hw4, hbs, hbw] at hP;rw [hw4, hbs, hbw];have hD := HD.out;have hM := hD.nt;have hmk : M.K.length ≤ 1000 := hP.lf.a.r.ok.k1;have hpa := hP.lf.a.r.ok
 have nodx : nodV M x.ak x.av x.ac x.ck x.cv x.cc = .agg #[.bool x.lf, .slice x.ak x.lk x.ck, .slice x.av x.lv x.cv, .slice x.ac x.lc x.cc] := by
  unfold nodV; rw [hP.lf.lf, hP.lf.lk, hP.lf.lv, hP.lf.lc]
 have hsort : SortM (FL ++ Fh ++ FR) := by rw [hD.eF]; exact HS.out
 have hlive : LiveL st (x.p :: (PC ++ [])) := by rw [List.append_nil]; exact HLV.out.perm hD.eP.symm
 have hAt := put_at key val hD.ctx hD.nt hsort hD.bL hD.bR hlive;rw [hD.eF] at hAt;have hMr := Rn_right hD.xp;have hMN := NB.of_right hMr.1;have hwh := whole_of hD.nt;have hlf : M.leaf = true := by rw [leaf_of hD.nt]; rfl
 have hmk9 : M.K.length ≤ 900 := by
  have := hMN.2.2;unfold sizeN at this;rw [hlf] at this;simp only [if_true] at this;omega
 have hcost := put_cost M key val hlf hwh
 have hNB : NB (putN M key val) 320 := by
  refine ⟨fun u hu => ?_, fun c hc => ?_, ?_⟩
  ·unfold putN at hu
   split at hu
   ·simp only [List.mem_append, List.mem_singleton] at hu
    rcases hu with (hu | rfl) | hu
    ·exact hMN.1 u (List.mem_of_mem_take hu)
    ·exact HV.out
    ·exact hMN.1 u (List.mem_of_mem_drop hu)
   ·exact hMN.1 u hu
  ·unfold putN at hc
   split at hc
   ·cases hc
   ·exact hMN.2.1 c hc
  ·have h1 := hMN.2.2
   have h2 := HV.out
   split at hcost <;> omega
 have hKne : (putN M key val).K ≠ [] := by
  unfold putN;rw [if_pos (by rw [hlf, hwh]; rfl)];intro e;have := congrArg List.length e;simp at this
 have PT : Hid (∀ wy, Frm F w4 wy → Calls Tryz.prog 77 #[.agg #[.bool x.lf, .slice x.ak x.lk x.ck, .slice x.av x.lv x.cv, .slice x.ac x.lc x.cc], .int .u64 key, .string val] wy fun e w' => NodBack wy.heap.size (putN M key val) e w' ∧ Below wy.heap.size wy w') := Hd (fun wy hf => by
  rw [← nodx];exact put_is M x.ak x.av x.ac x.ck x.cv x.cc wy (hP.lf.a.frm hf (fun k hk => .inl hk)).r key val hlf hwh hmk9 HKB.out (by have := HV.out; omega))
 have GW : Hid (∀ wg bk bv bc dk0 dv dc, Below w4.heap.size w4 wg → NodR wg (putN M key val) bk bv bc dk0 dv dc → LoR w4.heap.size bk bv bc → Calls Tryz.prog 78 #[.pointer (some ⟨g, 0, none⟩), .int .i64 x.p, nodV (putN M key val) bk bv bc dk0 dv dc] wg (Grown wg d s g dk st (r + H + 1) F fs 0 (insE key val (entsM F0)))) := Hd (fun wg bk bv bc dk0 dv dc b hn hlo => by
  have hlt : ∀ k, F k → k < w4.heap.size := hP.ts.lt;exact vgrow_is wg d s g dk st (r + H + 1) F (hP.ts.below b) HG.out (HRM.out.le (by omega)) fs 0 x.p (putN M key val) _ hAt hNB hKne bk bv bc dk0 dv dc (RowsA.new hn hlo.1 hlo.2.1 hlo.2.2 hlt))
 simp only [nodV] at GW;have HPS := Hd hP;have HSB := Hd hP.box;have HSL : Hid (bs < w4.heap.size) := Hd (by rw [hP.bs1]; omega);have HSF : Hid (¬ F bs) := Hd (fun hx => by have := HL.out _ hx; have := hP.bs0; omega);have HBK : Hid (Below w4.heap.size w4 w4.drew) := Hd Br.drew;have HSZ4 : Hid (w4.drew.heap.size = w4.heap.size) := Hd rfl;have HFL : Hid (fs.length = H) := Hd hD.ln;clear hP hw4 hbs hbw hD hM hmk hpa nodx hsort hlive hAt hMr hMN hwh hlf hmk9 hcost hNB hKne hw3 hf3 PO DN
 have REST : Hid (∀ (t1 t2 t3 t4 t5 t6 t7 t12 t14 t15 t16 t17 t18 t19 t20 t21 t22 t23 t24 t25 t26 t27 t28 t29 t30 t31 t32 t33 t34 t35 t36 t37 t38 t39 t40 t41 t42 t43 t44 t45 t46 t47 : Value) (we : World) (bx : Nat) (dk' : DkS) (st' : ShS) (F' : Nat → Prop) (KM : List Int) (QM : List Kid) (g1 g2 g3 : Int), PutJ w d s g dk st (r + H + 1) F (insE key val (entsM F0)) bw bx (2 * H + 3) we fs xs 0 dk' st' F' (WF bw (.slice va vn vc)) KM QM g1 g2 g3 hi → KK { tmps := #[.pointer (some ⟨g, 0, none⟩), t1, t2, t3, t4, t5, t6, t7, .int .i64 0, .int .i64 0, .pointer (some ⟨bw, 0, none⟩), .int .i64 0, t12, .pointer (some ⟨bx, 0, none⟩), t14, t15, t16, t17, t18, t19, t20, t21, t22, t23, t24, t25, t26, t27, t28, t29, t30, t31, t32, t33, t34, t35, t36, t37, t38, t39, t40, t41, t42, t43, t44, t45, t46, t47, undef, undef, undef, undef, undef, undef, undef, undef, undef, undef, undef, undef, undef, undef, undef, undef, undef, undef, undef, undef, undef, undef, undef, undef, undef, undef, undef, undef, undef, undef, undef, undef, undef, undef, undef, undef, undef, undef, undef, undef, undef, undef, undef, undef, undef, undef, undef, undef, undef, undef, undef, undef, undef, undef, undef, undef, undef, undef, undef, undef], defers := [] } we) := Hd (by
  intro t1 t2 t3 t4 t5 t6 t7 t12 t14 t15 t16 t17 t18 t19 t20 t21 t22 t23 t24 t25 t26 t27 t28 t29 t30 t31 t32 t33 t34 t35 t36 t37 t38 t39 t40 t41 t42 t43 t44 t45 t46 t47 we bx dk' st' F' KM QM g1 g2 g3 hJ;refine hKK _ _ ?_;have HJ0 := Hd hJ;clear hJ PT GW HSB HSL HSF HBK HSZ4 HPS
  
  go_wp2_with fail
  go_loopw [11] (fun p wr => ∃ fs' xs' hh dk' st' F' FW KM QM g1 g2 g3 hi', p = .int .i64 0 ∧ PutJ w d s g dk st (r + H + 1) F (insE key val (entsM F0)) bw bx (2 * H + 3) wr fs' xs' hh dk' st' F' FW KM QM g1 g2 g3 hi') (fun _ wr => wayN bw wr)
  case atStart => exact ⟨fs, xs, 0, dk', st', F', _, KM, QM, g1, g2, g3, hi, rfl, HJ0.out⟩
  case round =>
   obtain ⟨fs', xs', hh, dk', st', F', FW, KM, QM, g1, g2, g3, hi', rfl, hJ⟩ := hrel;have hlen := StepsA.len _ _ _ hJ.sts;have HJ := Hd hJ;obtain ⟨c0, c1, c2, f0, f1, f2⟩ := gr_cells hJ.gb;have WD := Hd (way_depth wr bw xs'.reverse FW hJ.way);clear HJ0
   cases xs' with
   | nil =>
    have hfs : fs' = [] := List.length_eq_zero_iff.1 (by rw [← hlen]; rfl);subst hfs;have hup := hJ.up;have hgr := hJ.gr;have hts := hJ.ts;rw [show ([] : List StepV).reverse.length = 0 from rfl] at WD
    rcases hgr with ⟨q, hKM, hQM, hg1, hg2⟩ | ⟨q1, q2, hKM, hQM, hg1, hg2, hg22⟩
    ·have hT := put_one (by rw [← hKM]; exact hup) g1 g2 g3 (.inl ⟨q, rfl, hQM, hg1, hg2⟩)
     have FIN : Hid (PutT w d s g dk st F (insE key val (entsM F0)) (2 * H + 3) (.returned (.tuple #[.int .i64 g1, .int .i64 0])) wr) := Hd ⟨g1, dk', st', r + H + 1, rfl, ⟨F', hJ.ts, hJ.fr, hJ.fn⟩, hT, hJ.tt, fun k hk => (hJ.rm k hk).le (by omega)⟩;subst hg2;clear hT hJ hup hg1 hQM hKM hts;go_wp2_with fail;refine WD.out.mono ?_;rintro e w9 ⟨rfl, rfl⟩;go_wp2_with fail;go_ret2;exact FIN.out
    ·obtain ⟨wm, hwm⟩ : ∃ wm, wr.alloc (.cells #[.int .u64 g3] 28) = wm := ⟨_, rfl⟩
     have hym : wm.heap[bx]? = some (grO g1 g2 g3) := by rw [← hwm]; exact (hao wr _ (zl hJ.gb)).trans hJ.gb
     obtain ⟨m0, m1, m2, _⟩ := gr_cells hym;have zm : wm.heap.size = wr.heap.size + 1 := by rw [← hwm]; simp
     obtain ⟨w9, hw9⟩ : ∃ w9, wm.alloc (.cells #[.int .i64 g1, .int .i64 g2] 3) = w9 := ⟨_, rfl⟩
     have bm : Below wr.heap.size wr wm := by rw [← hwm]; exact (Below.refl _ wr).alloc (Nat.le_refl _) _
     have b9 : Below wr.heap.size wr w9 := by rw [← hw9]; exact bm.alloc bm.size _
     have z9 : w9.heap.size = wr.heap.size + 2 := by rw [← hw9]; simp [zm]
     have xa9 : w9.heap[wr.heap.size]? = some (.cells #[.int .u64 g3] 28) := by rw [← hw9]; refine (hao wm _ (by omega)).trans ?_; rw [← hwm]; exact han wr _
     have xb9 : w9.heap[wr.heap.size + 1]? = some (.cells #[.int .i64 g1, .int .i64 g2] 3) := by rw [← hw9, ← zm]; exact han wm _
     have hheads := hup.heads hJ.tt.g;rw [hQM] at hheads;have h1b := hheads g1 (by rw [hg1]; simp [kP]);have h2b := hheads g2 (by rw [hg2]; simp [kP]);have hnok := two_ok g1 g2 g3 h1b h2b hJ.g3
     have hnr : NodR w9 ⟨false, [g3], [], [g1, g2]⟩ (some ⟨wr.heap.size, 0, none⟩) none (some ⟨wr.heap.size + 1, 0, none⟩) 1 0 2 := by
      refine ⟨.inr ⟨_, 0, rfl, by omega, fun j u hu => ?_⟩, .inl rfl, .inr ⟨_, 0, rfl, by omega, fun j u hu => ?_⟩, by simp, by simp [maxLen], by simp, by simp, by simp, by simp [maxLen], hnok⟩
      ·match j with
       | 0 => injection hu with hu; subst hu; rw [cob xa9]; rfl
       | j + 1 => simp at hu
      ·match j with
       | 0 => injection hu with hu; subst hu; rw [cob xb9]; rfl
       | 1 => injection hu with hu; subst hu; rw [cob xb9]; rfl
       | j + 2 => simp at hu
     have hright := two_right g1 g2 g3 h1b h2b;have hFlt : ∀ k, F' k → k < wr.heap.size := hts.lt
     have PL : Hid (Calls Tryz.prog 76 #[.pointer (some ⟨g, 0, none⟩), .agg #[.bool false, .slice (some ⟨wr.heap.size, 0, none⟩) 1 1, .slice none 0 0, .slice (some ⟨wr.heap.size + 1, 0, none⟩) 2 2]] w9 (PutT w d s g dk st F (insE key val (entsM F0)) (2 * H + 3))) := Hd (by
      refine (vplace_is w9 d s g dk' st' (r + H + 1) F' (hts.below b9) hJ.tt.g (hJ.rm 0 (by rw [Nat.zero_add]; exact HRM.out)) _ hright _ _ _ 1 0 2 (RowsA.new (lo := wr.heap.size) hnr (fun x hx => by injection hx with hx; subst hx; exact Nat.le_refl _) (fun x hx => by cases hx) (fun x hx => by injection hx with hx; subst hx; exact Nat.le_succ _) hFlt)).mono ?_;rintro e w10 ⟨q, dk2, st2, rfl, ⟨F2, t1, t2, t3⟩, hpl, hrm⟩;have hT := put_two (by rw [← hKM]; exact hup) (.inr ⟨q1, q2, rfl, hQM, hg1, hg2, hg22⟩) rfl rfl rfl rfl hpl
      refine ⟨q, dk2, st2, r + H + 1, rfl, ⟨F2, t1, ?_, fun k hk => ?_⟩, hT, hJ.tt.trans hpl.tt, fun k hk => hrm k ((hJ.rm k hk).le (by simp))⟩
      ·have f9 : Frm F w w9 := hJ.fr.trans (G := fun _ => False) (Frm.of_below b9) (fun _ hx => hx.elim)
       exact f9.trans t2 (fun k hk => hJ.fn k hk)
      ·rcases t3 k hk with h1 | h1
       ·exact hJ.fn k h1
       ·exact .inr (by have := hJ.fr.size; omega))
     have hg20 : (g2 == 0) = false := by rw [beq_eq_false_iff_ne]; omega
     clear hJ hup hg1 hg2 hg22 hQM hKM hts b9 z9 hym bm xa9 xb9 hheads h1b h2b hnok hnr hright hFlt;go_wp2_with fail;refine WD.out.mono ?_;rintro e w8 ⟨rfl, rfl⟩;go_wp2_with fail;refine PL.out.mono ?_;rintro e w10 ⟨q, dk2, st2, r2, rfl, z2, z3, z4, z5⟩;have FIN : Hid (PutT w d s g dk st F (insE key val (entsM F0)) (2 * H + 3) (.returned (.tuple #[.int .i64 q, .int .i64 0])) w10) := Hd ⟨q, dk2, st2, r2, rfl, z2, z3, z4, z5⟩;clear z2 z3 z4 z5;go_wp2_with fail;go_ret2;exact FIN.out
   | cons x xs' =>
    cases fs' with
    | nil => exact absurd hlen (by simp)
    | cons f fs' =>
     have hkl : KM.length ≤ 1 := by
      rcases hJ.gr with ⟨_, h, _⟩ | ⟨_, _, h, _⟩ <;> rw [h] <;> simp
     have PO := Hd (way_pop wr bw xs'.reverse x FW (by have := hJ.way; rwa [List.reverse_cons] at this));have hbw : FW bw := by obtain ⟨v, hi, he⟩ := hJ.way; exact (he bw).2 (.inl rfl)
     obtain ⟨n, hn⟩ : ∃ n, xs'.length = n := ⟨_, rfl⟩
     have hrl : (x :: xs').reverse.length = n + 1 := by rw [List.length_reverse, List.length_cons, hn]
     rw [hrl] at WD;have hn0 : (0 : Int) < (n : Int) + 1 := by omega
     have HN := Hd hn;clear hJ hlen hn hrl;go_wp2_with fail;refine WD.out.mono ?_;rintro e w8 ⟨rfl, rfl⟩;go_wp2_with fail;refine PO.out.mono ?_;rintro e w2 ⟨rfl, hw2, hf2⟩;obtain ⟨cb, off, e1, e2, e3, e4, e5, ⟨c, e6⟩, e7, e8, e9, hready⟩ := round_ready HL.out HJ.out hkl hw2 hf2 hbw;have HRY := Hd hready;have E4 := Hd e4;have E8 := Hd e8;have HGR := Hd HJ.out.gr;have HW2 := Hd hw2;unfold StepV.val;have EE := Hd (And.intro e1 e2);clear hready hw2 hf2 hbw e1 e2 e4 e8 c0 c1 c2 f0 f1 f2;go_upto_region 10 with fail
     obtain ⟨w3, hw3⟩ : ∃ w3, w2.alloc (.cells #[.int .i64 x.p, .int .i64 x.i, .bool x.fd, .bool x.lf, .slice x.ak x.lk x.ck, .slice x.av x.lv x.cv, .slice x.ac x.lc x.cc] 99) = w3 := ⟨_, rfl⟩
     have b3 : Below w2.heap.size w2 w3 := by rw [← hw3]; exact (Below.refl _ w2).alloc (Nat.le_refl _) _
     have X3 : w3.heap[w2.heap.size]? = some (.cells #[.int .i64 x.p, .int .i64 x.i, .bool x.fd, .bool x.lf, .slice x.ak x.lk x.ck, .slice x.av x.lv x.cv, .slice x.ac x.lc x.cc] 99) := by rw [← hw3]; exact han w2 _
     rw [EE.out.1, EE.out.2] at X3;obtain ⟨_, b1, _, _, _, _, b6⟩ := cells7 X3;obtain ⟨c0, c1, c2, _⟩ := gr_cells (kept e9 b3);have q6 := (b3.cell (p := ⟨cb, off + f.KA.length, none⟩) e5).trans e6
     have q7 : w3.frozen? ⟨cb, off + f.KA.length, none⟩ = false := by
      have h7 := e7;unfold World.frozen? at h7 ⊢;rw [show w3.heap[(⟨cb, off + f.KA.length, none⟩ : Addr).block]? = w2.heap[(⟨cb, off + f.KA.length, none⟩ : Addr).block]? from b3.block cb e5];exact h7
     have q8 : (f.KA.length : Int) < (x.lc : Int) := by omega
     have HRY4 := Hd (HRY.out w3 hw3.symm);rw [hw3];clear hw3 X3 b3 e3 e5 e6 e7 e9 HRY;go_upto_region 11 with fail
     obtain ⟨w4, hw4⟩ : ∃ w4, w3.setCell ⟨cb, off + f.KA.length, none⟩ (.int .i64 g1) = w4 := ⟨_, rfl⟩
     obtain ⟨lo, hRS, rA, ep, box4, l1, l2, l3⟩ := HRY4.out w4 hw4.symm;obtain ⟨bs, hbs⟩ : ∃ bs, w2.heap.size = bs := ⟨_, rfl⟩
     rw [hbs] at hRS box4;rw [hw4, hbs];clear hw4 hbs HRY4 b1 b6 c0 c1 c2 q6 q7 q8;have l4 := E4.out
     have nodx : nodV (setKid f.N f.KA.length g1) x.ak x.av x.ac x.ck x.cv x.cc = .agg #[.bool x.lf, .slice x.ak x.lk x.ck, .slice x.av x.lv x.cv, .slice x.ac x.lc x.cc] := by
      unfold nodV setKid
      dsimp only
      rw [List.length_set, l1, l2, l3, l4]
     have hfok := HJ.out.up.frame;have hone := up_one hfok g1;have HRM4 : Hid (Room dk' st' 2) := Hd ((HJ.out.rm 0 (by rw [Nat.zero_add]; exact HRM.out)).le (by simp; omega));obtain ⟨d0, _, _, d3, d4, d5, d6⟩ := cells7 box4;rw [ep] at d0;obtain ⟨c0, c1, c2, f0, f1, f2⟩ := gr_cells hRS.gb;have F'lt : ∀ k, F' k → k < w4.heap.size := hRS.ts.lt
     rcases HGR.out with ⟨q, hKM, hQM, hg1, hg2⟩ | ⟨q1, q2, hKM, hQM, hg1, hg2, hg22⟩
     ·have eN : upN f KM (kP QM) = setKid f.N f.KA.length g1 := by rw [hone, hKM, hQM, hg1]; rfl
      have GW : Hid (Calls Tryz.prog 78 #[.pointer (some ⟨g, 0, none⟩), .int .i64 f.page, .agg #[.bool x.lf, .slice x.ak x.lk x.ck, .slice x.av x.lv x.cv, .slice x.ac x.lc x.cc]] w4 (Grown w4 d s g dk' st' (r + H + 1) F' fs' (hh + 1) (insE key val (entsM F0)))) := Hd (by
       rw [← nodx, ← eN];rw [← eN] at rA;exact vgrow_is w4 d s g dk' st' (r + H + 1) F' hRS.ts hRS.tt.g HRM4.out fs' (hh + 1) f.page _ _ hRS.at_ hRS.nb hRS.nk _ _ _ _ _ _ rA)
      have HRS := Hd hRS;subst hg2;clear hRS rA box4 l1 l2 l3 l4 nodx hone eN hKM hQM hg1 hfok F'lt;go_wp2_with fail;refine GW.out.mono ?_;rintro e w7 ⟨k1, k2, k3, KM2, QM2, dk2, st2, rfl, ⟨F2, t1, t2, t3⟩, u1, u2, u3, u4, u5, u6⟩;have hy7 : w7.heap[bx]? = some (grO g1 0 g3) := (t2.block bx (zl HRS.out.gb) HRS.out.bxF).trans HRS.out.gb;have hJn := round_next HRS.out t1 t2 t3 (put3_frm (Frm.refl (fun k => k = bx) w7) bx k1 k2 k3 (.inl rfl)) (put3_block (x := k1) (y := k2) (z := k3) hy7) u1 u2 ⟨u5, u6⟩ u3 u4;have FIN := Hd hJn;have WN1 := Hd (wayN_of hJn.way)
      have WN2 := Hd (wayN_of HJ.out.way);have HL2 := HN.out;obtain ⟨c0, c1, c2, f0, f1, f2⟩ := gr_cells hy7;clear hJn t1 t2 t3 u1 u2 u3 u4 u5 u6 hy7;unfold put3 at FIN WN1;go_wp2_with fail;go_roundw
      case rel => exact ⟨fs', xs', hh + 1, dk2, st2, F2, FW, KM2, QM2, k1, k2, k3, lo, rfl, FIN.out⟩
      case measure =>
       rw [WN1.out, WN2.out];simp only [List.length_reverse, List.length_cons];omega
     ·have eN : hangN (setKid f.N f.KA.length g1) (f.KA.length : Int) g3 g2 = upN f KM (kP QM) := by rw [hone, up_two hfok, hKM, hQM, hg1, hg2]; rfl
      have hkn : f.KA.length ≤ (setKid f.N f.KA.length g1).K.length := by rw [hone]; simp [upN]
      have hwn : wholeB (setKid f.N f.KA.length g1) = true := by
       have h0 := (wholeB_branch hfok.lf).1 ((rightN_iff _).1 hfok.r).2.1;exact (wholeB_branch (n := setKid f.N f.KA.length g1) hfok.lf).2 ⟨by unfold setKid; dsimp only; rw [List.length_set]; exact h0.1, h0.2⟩
      have hk8 : (setKid f.N f.KA.length g1).K.length ≤ 800 := by
       have h0 := ((rightN_iff _).1 hfok.r).2.2.2;unfold sizeN at h0;rw [hfok.lf] at h0;simp only [Bool.false_eq_true, if_false] at h0
       show f.N.K.length ≤ 800
       omega
      have hg2b := HJ.out.up.heads HJ.out.tt.g g2 (by rw [hQM, hg2]; simp [kP])
      have HGC : Hid (Calls Tryz.prog 79 #[.agg #[.bool x.lf, .slice x.ak x.lk x.ck, .slice x.av x.lv x.cv, .slice x.ac x.lc x.cc], .int .i64 x.i, .int .u64 g3, .int .i64 g2] w4 fun e w' => NodBack w4.heap.size (upN f KM (kP QM)) e w' ∧ Below w4.heap.size w4 w') := Hd (by
       rw [← nodx, ← eN, EE.out.2];exact hang_is (setKid f.N f.KA.length g1) x.ak x.av x.ac x.ck x.cv x.cc w4 rA.r f.KA.length g3 g2 hfok.lf hwn hkn hk8 HJ.out.g3 (by omega))
      have hg20 : (g2 != 0) = true := by rw [bne_iff_ne]; omega
      have d1 := (cells7 box4).2.1;have HRS := Hd hRS;have HBX4 := Hd box4;have HFL4 := Hd F'lt;clear hRS rA box4 l1 l2 l3 l4 nodx hone eN hKM hQM hg1 hg2 hg22 hfok hkn hwn hk8 hg2b F'lt;go_wp2_with fail;refine HGC.out.mono ?_;rintro e w5 ⟨⟨bk, bv, bc, dk0, dv, dc, rfl, hRN, r1, r2, r3⟩, b5⟩;have X5 := kept HBX4.out b5;obtain ⟨y0, y1, y2, y3, y4, y5, y6⟩ := cells7 X5;have k3 := ufb X5 3;have k4 := ufb X5 4;have k5 := ufb X5 5;have k6 := ufb X5 6;obtain ⟨N', hN'⟩ : ∃ N', upN f KM (kP QM) = N' := ⟨_, rfl⟩
      rw [hN'] at hRN HRS ⊢;have HRN := Hd hRN;have HR3 := Hd (And.intro r1 (And.intro r2 r3));have HB5 := Hd b5;have HX5 := Hd X5;simp only [nodV];clear hRN r1 r2 r3 b5 X5 d0 d1 d3 d4 d5 d6 c0 c1 c2 f0 f1 f2 hN' HGC;go_upto_region 13 with fail
      obtain ⟨w6, hw6⟩ : ∃ w6, (((w5.setCell ⟨bs, 3, none⟩ (.bool N'.leaf)).setCell ⟨bs, 4, none⟩ (.slice bk N'.K.length dk0)).setCell ⟨bs, 5, none⟩ (.slice bv N'.V.length dv)).setCell ⟨bs, 6, none⟩ (.slice bc N'.C.length dc) = w6 := ⟨_, rfl⟩
      have F56 : Frm (fun k => k = bs) w5 w6 := hw6 ▸ putN_frm (Frm.refl _ w5) bs (.bool N'.leaf) (.slice bk N'.K.length dk0) (.slice bv N'.V.length dv) (.slice bc N'.C.length dc) (.inl rfl);have X6 : w6.heap[bs]? = some (.cells #[.int .i64 x.p, .int .i64 x.i, .bool x.fd, .bool N'.leaf, .slice bk N'.K.length dk0, .slice bv N'.V.length dv, .slice bc N'.C.length dc] 99) := hw6 ▸ putN_block HX5.out (.bool N'.leaf) (.slice bk N'.K.length dk0) (.slice bv N'.V.length dv) (.slice bc N'.C.length dc);rw [ep] at X6
      have hRS6 := HRS.out.below ((Frm.of_below HB5.out : Frm (fun k => k = bs) w4 w5).trans F56 (fun k hk => .inl hk))
      have rA6 : RowsA w6 N' bk bv bc dk0 dv dc F' := by
       have hlt4 := HRS.out.bsz
       have r0 : RowsA w5 N' bk bv bc dk0 dv dc (fun k => F' k ∨ k = bs) := RowsA.new (lo := w4.heap.size) HRN.out HR3.out.1 HR3.out.2.1 HR3.out.2.2 (fun k hk => by
        rcases hk with hk | hk
        ·exact HFL4.out k hk
        ·omega)
       exact (r0.frm F56 (fun k hk => .inr hk)).mono (fun k hk => .inl hk)
      have GW : Hid (Calls Tryz.prog 78 #[.pointer (some ⟨g, 0, none⟩), .int .i64 f.page, .agg #[.bool N'.leaf, .slice bk N'.K.length dk0, .slice bv N'.V.length dv, .slice bc N'.C.length dc]] w6 (Grown w6 d s g dk' st' (r + H + 1) F' fs' (hh + 1) (insE key val (entsM F0)))) := Hd (by
       exact vgrow_is w6 d s g dk' st' (r + H + 1) F' hRS6.ts hRS6.tt.g HRM4.out fs' (hh + 1) f.page N' _ hRS6.at_ hRS6.nb hRS6.nk _ _ _ _ _ _ rA6)
      obtain ⟨d0, d1, d2, d3, d4, d5, d6⟩ := cells7 X6;obtain ⟨c0, c1, c2, f0, f1, f2⟩ := gr_cells hRS6.gb;clear HRS;have HRS := Hd hRS6;rw [hw6];clear hw6 X6 F56 rA6 hRS6 y0 y1 y2 y3 y4 y5 y6 k3 k4 k5 k6 HRN HR3 HB5 HX5;go_wp2_with fail;refine GW.out.mono ?_;rintro e w7 ⟨k1, k2, k3, KM2, QM2, dk2, st2, rfl, ⟨F2, t1, t2, t3⟩, u1, u2, u3, u4, u5, u6⟩;have hy7 : w7.heap[bx]? = some (grO g1 g2 g3) := (t2.block bx (zl HRS.out.gb) HRS.out.bxF).trans HRS.out.gb
      have hJn := round_next HRS.out t1 t2 t3 (put3_frm (Frm.refl (fun k => k = bx) w7) bx k1 k2 k3 (.inl rfl)) (put3_block (x := k1) (y := k2) (z := k3) hy7) u1 u2 ⟨u5, u6⟩ u3 u4;have FIN := Hd hJn;have WN1 := Hd (wayN_of hJn.way);have WN2 := Hd (wayN_of HJ.out.way);have HL2 := HN.out;obtain ⟨c0, c1, c2, f0, f1, f2⟩ := gr_cells hy7;clear hJn t1 t2 t3 u1 u2 u3 u4 u5 u6 hy7;unfold put3 at FIN WN1;go_wp2_with fail;go_roundw
      case rel => exact ⟨fs', xs', hh + 1, dk2, st2, F2, FW, KM2, QM2, k1, k2, k3, lo, rfl, FIN.out⟩
      case measure =>
       rw [WN1.out, WN2.out];simp only [List.length_reverse, List.length_cons];omega)
 refine wp_region_held_drew (S := fun wz => Frm F w4 wz) (by kernel_rfl) ((Frm.refl F w4).drew) (fun hS => ?_);refine Hu 0 37 hS ?_;simp only [SL];refine Hu 1 38 hS ?_;simp only [SL];refine Hv 2 39 ?v2x3 hS ?h2x3 ?_
 case h2x3 =>
  intro w9 s9;have cN0 := cl ((s9.block bs HSL.out HSF.out).trans HSB.out) 0 rfl;clear s9;go_simp;try (with_reducible rfl)
 simp only [SL];refine Hu 3 40 hS ?_;simp only [SL];refine Hv 4 41 ?v4x5 hS ?h4x5 ?_
 case h4x5 =>
  intro w9 s9;have cN3 := cl ((s9.block bs HSL.out HSF.out).trans HSB.out) 3 rfl;have cN4 := cl ((s9.block bs HSL.out HSF.out).trans HSB.out) 4 rfl;have cN5 := cl ((s9.block bs HSL.out HSF.out).trans HSB.out) 5 rfl;have cN6 := cl ((s9.block bs HSL.out HSF.out).trans HSB.out) 6 rfl;clear s9;go_simp;try (with_reducible rfl)
 simp only [SL];refine Hu 5 42 hS ?_;simp only [SL];refine Hu 6 43 hS ?_;simp only [SL];refine Hk 7 12 (fun K HK => ?_) (fun K HK => ?_)
 ·go_simp
  go_wp2_with fail;refine (PT.out _ hS).mono ?_;rintro e wp ⟨⟨bk, bv, bc, dk0, dv, dc, rfl, hR, q1, q2, q3⟩, b7⟩;simp only [nodV];refine HK.out _ _ ?_ ?_
  ·exact hS.trans (G := fun _ => False) (Frm.of_below b7) (fun _ hx => hx.elim)
  clear HK K;try simp only [Act.put, SL]
  have hS9 := hS.trans (G := fun _ => False) (Frm.of_below b7) (fun _ hx => hx.elim);clear hS;have hS := hS9;clear hS9;have HBK7 := Hd (HBK.out.trans (b7.mono HBK.out.size));have HR7 := Hd hR;have Q7 : Hid ((∀ y, bk = some y → w4.heap.size ≤ y.block) ∧ (∀ y, bv = some y → w4.heap.size ≤ y.block) ∧ ∀ y, bc = some y → w4.heap.size ≤ y.block) := Hd ⟨fun y hy => Nat.le_trans HBK.out.size (q1 y hy), fun y hy => Nat.le_trans HBK.out.size (q2 y hy), fun y hy => Nat.le_trans HBK.out.size (q3 y hy)⟩;clear HBK;have HBK := HBK7;clear HBK7 hR q1 q2 q3 b7;refine Hk 8 12 (fun K HK => ?_) (fun K HK => ?_)
  ·go_simp
   go_wp2_with fail;refine (GW.out _ bk bv bc dk0 dv dc HBK.out HR7.out ⟨Q7.out.1, Q7.out.2.1, Q7.out.2.2⟩).mono ?_;rintro e wh ⟨g1, g2, g3, KM, QM, dk', st', rfl, ⟨F', t1, t2, t3⟩, u1, u2, u3, u4, u5, u6⟩;refine HK.out _ _ ?_ ?_
   ·exact hS.trans t2 (fun k hk => .inl hk)
   clear HK K;try simp only [Act.put, SL]
   have hS9 := hS.trans t2 (fun k hk => .inl hk);clear hS;have hS := hS9;clear hS9;have GR8 := Hd (And.intro t1 (And.intro t2 (And.intro t3 (And.intro u1 (And.intro u2 (And.intro u3 (And.intro u4 (And.intro u5 u6))))))));have FH : Hid (Frm (fun k => k = wh.heap.size) wh wh) := Hd (Frm.refl _ _);clear t1 t2 t3 u1 u2 u3 u4 u5 u6 FH;refine Hu 9 36 hS ?_;simp only [SL];refine Hu 10 46 hS ?_;simp only [SL];refine Hu 11 47 hS ?_;simp only [SL];refine Hs 12 (fun K HK => ?_);go_simp;refine HK.out _ _ ?_ ?_
   ·exact hS.alloc _
   clear HK K;try simp only [Act.put, SL]
   have hsz0 := hS.size;have hS9 := hS.alloc (.cells #[.int .i64 0, .int .i64 0, .int .u64 0] 142);clear hS;obtain ⟨wa, hwa⟩ : ∃ wa, wh.alloc (.cells #[.int .i64 0, .int .i64 0, .int .u64 0] 142) = wa := ⟨_, rfl⟩
   obtain ⟨bx, hbx⟩ : ∃ bx, wh.heap.size = bx := ⟨_, rfl⟩
   have HBX : Hid (wa.heap[bx]? = some (grO 0 0 0)) := Hd (by rw [← hwa, ← hbx]; exact han _ _);have BXL : Hid (w4.heap.size ≤ bx) := Hd (by rw [← hbx]; exact hsz0);have BXR : Hid (bx < wa.heap.size) := Hd (by rw [← hwa, ← hbx]; simp);have NB8 : Hid (¬ F' bx) := Hd (fun hx => by have := GR8.out.1.lt _ hx; omega);have FE : Hid (Frm (fun k => k = bx) wh wa) := Hd (by rw [← hwa]; exact (Frm.refl _ wh).alloc _);rw [hwa] at hS9;rw [hwa, hbx];have hS := hS9;clear hS9 hwa hbx;obtain ⟨a0, a1, a2, f0, f1, f2⟩ := gr_cells HBX.out;refine Hs 13 (fun K HK => ?_);go_simp;refine HK.out _ _ ?_ ?_
   ·exact put3_frm hS _ _ _ _ (.inr BXL.out)
   clear HK K;try simp only [Act.put, SL]
   have hS9 := put3_frm hS bx g1 g2 g3 (.inr BXL.out);clear hS;unfold put3 at hS9;have hS := hS9;clear hS9 a0 a1 a2 f0 f1 f2;refine Hu 14 11 hS ?_;simp only [SL];refine wpAnyH_done (by kernel_rfl) ?_ _;have g8 := GR8.out
   exact REST.out _ _ _ _ _ _ _ _ _ _ _ _ _ _ _ _ _ _ _ _ _ _ _ _ _ _ _ _ _ _ _ _ _ _ _ _ _ _ _ _ _ _ _ _ _ _ _ _ _ _ _ _ (putJ_start HPS.out HBK.out g8.1 g8.2.1 g8.2.2.1 NB8.out BXL.out (put3_frm FE.out bx g1 g2 g3 (.inl rfl)) (put3_block HBX.out) g8.2.2.2.1 g8.2.2.2.2.1 ⟨g8.2.2.2.2.2.2.2.1, g8.2.2.2.2.2.2.2.2⟩ g8.2.2.2.2.2.1 (fun k hk => g8.2.2.2.2.2.2.1 (k + 2 * fs.length + 1) (by rw [HFL.out]; exact hk.le (by omega))))
  ·go_simp
   refine HK.out _ _ ?_ ?_
   ·exact hS.alloc _
   clear HK K;try simp only [Act.put, SL]
   have hsz0 := hS.size;have hS9 := hS.alloc (.cells #[.int .i64 0, .int .i64 0, .int .u64 0] 142);clear hS;obtain ⟨wa, hwa⟩ : ∃ wa, wp.alloc (.cells #[.int .i64 0, .int .i64 0, .int .u64 0] 142) = wa := ⟨_, rfl⟩
   obtain ⟨bx, hbx⟩ : ∃ bx, wp.heap.size = bx := ⟨_, rfl⟩
   have HBX : Hid (wa.heap[bx]? = some (grO 0 0 0)) := Hd (by rw [← hwa, ← hbx]; exact han _ _);have BXL : Hid (w4.heap.size ≤ bx) := Hd (by rw [← hbx]; exact hsz0);have BXR : Hid (bx < wa.heap.size) := Hd (by rw [← hwa, ← hbx]; simp);have HBK9 : Hid (Below w4.heap.size w4 wa) := Hd (by rw [← hwa]; exact HBK.out.alloc HBK.out.size _);clear HBK;have HBK := HBK9;clear HBK9;have HR9 := Hd (HR7.out.below (show Below wp.heap.size wp wa from by rw [← hwa]; exact (Below.refl _ wp).alloc (Nat.le_refl _) _));clear HR7;have HR7 := HR9;clear HR9;rw [hwa] at hS9;rw [hwa, hbx];have hS := hS9
   clear hS9 hwa hbx;refine Hs 8 (fun K HK => ?_);go_simp;go_wp2_with fail;refine (GW.out _ bk bv bc dk0 dv dc HBK.out HR7.out ⟨Q7.out.1, Q7.out.2.1, Q7.out.2.2⟩).mono ?_;rintro e wh ⟨g1, g2, g3, KM, QM, dk', st', rfl, ⟨F', t1, t2, t3⟩, u1, u2, u3, u4, u5, u6⟩;refine HK.out _ _ ?_ ?_
   ·exact hS.trans t2 (fun k hk => .inl hk)
   clear HK K;try simp only [Act.put, SL]
   have hS9 := hS.trans t2 (fun k hk => .inl hk);clear hS;have hS := hS9;clear hS9;have GR8 := Hd (And.intro t1 (And.intro t2 (And.intro t3 (And.intro u1 (And.intro u2 (And.intro u3 (And.intro u4 (And.intro u5 u6))))))));have FH : Hid (Frm (fun k => k = wh.heap.size) wh wh) := Hd (Frm.refl _ _)
   have nb8 : ¬ F' bx := fun hx => by
    rcases t3 _ hx with h1 | h1
    ·have := HL.out _ h1; have := BXL.out; have := HPS.out.fr.size; omega
    ·have := BXR.out; omega
   have NB8 := Hd nb8;have HBX8 := Hd ((t2.block bx BXR.out (fun hx => by have := HL.out _ hx; have := BXL.out; have := HPS.out.fr.size; omega)).trans HBX.out);clear HBX nb8;have HBX := HBX8;clear HBX8;have FE : Hid (Frm (fun k => k = bx) wh wh) := Hd (Frm.refl _ _);obtain ⟨a0, a1, a2, f0, f1, f2⟩ := gr_cells HBX.out;clear t1 t2 t3 u1 u2 u3 u4 u5 u6 FH;refine Hu 9 36 hS ?_;simp only [SL];refine Hu 10 46 hS ?_;simp only [SL];refine Hu 11 47 hS ?_;simp only [SL];refine Hs 13 (fun K HK => ?_);go_simp;refine HK.out _ _ ?_ ?_
   ·exact put3_frm hS _ _ _ _ (.inr BXL.out)
   clear HK K;try simp only [Act.put, SL]
   have hS9 := put3_frm hS bx g1 g2 g3 (.inr BXL.out);clear hS;unfold put3 at hS9;have hS := hS9;clear hS9 a0 a1 a2 f0 f1 f2;refine Hu 14 11 hS ?_;simp only [SL];refine wpAnyH_done (by kernel_rfl) ?_ _;have g8 := GR8.out
   exact REST.out _ _ _ _ _ _ _ _ _ _ _ _ _ _ _ _ _ _ _ _ _ _ _ _ _ _ _ _ _ _ _ _ _ _ _ _ _ _ _ _ _ _ _ _ _ _ _ _ _ _ _ _ (putJ_start HPS.out HBK.out g8.1 g8.2.1 g8.2.2.1 NB8.out BXL.out (put3_frm FE.out bx g1 g2 g3 (.inl rfl)) (put3_block HBX.out) g8.2.2.2.1 g8.2.2.2.2.1 ⟨g8.2.2.2.2.2.2.2.1, g8.2.2.2.2.2.2.2.2⟩ g8.2.2.2.2.2.1 (fun k hk => g8.2.2.2.2.2.2.1 (k + 2 * fs.length + 1) (by rw [HFL.out]; exact hk.le (by omega))))
 ·go_simp
  refine HK.out _ _ ?_ ?_
  ·exact hS.alloc _
  clear HK K;try simp only [Act.put, SL]
  have hsz0 := hS.size;have hS9 : Frm F w4 (w4.alloc (.cells #[.int .i64 0, .int .i64 0, .int .u64 0] 142)).drew := hS.alloc (.cells #[.int .i64 0, .int .i64 0, .int .u64 0] 142);clear hS;obtain ⟨wa, hwa⟩ : ∃ wa, (w4.alloc (.cells #[.int .i64 0, .int .i64 0, .int .u64 0] 142)).drew = wa := ⟨_, rfl⟩
  obtain ⟨bx, hbx⟩ : ∃ bx, w4.heap.size = bx := ⟨_, rfl⟩
  have HBX : Hid (wa.heap[bx]? = some (grO 0 0 0)) := Hd (by rw [← hwa, ← hbx]; exact han w4 _);have BXL : Hid (w4.heap.size ≤ bx) := Hd (by rw [← hbx]; exact Nat.le_refl _);have BXR : Hid (bx < wa.heap.size) := Hd (by rw [← hwa, ← hbx]; show w4.heap.size < (w4.alloc _).heap.size; simp);have HBK9 : Hid (Below w4.heap.size w4 wa) := Hd (by rw [← hwa]; exact ((Below.refl _ w4).alloc (Nat.le_refl _) _).drew);clear HBK;have HBK := HBK9;clear HBK9;rw [hwa] at hS9;rw [hwa, hbx];have hS := hS9;clear hS9 hwa hbx;refine Hs 7 (fun K HK => ?_);go_simp;go_wp2_with fail
  refine (PT.out _ hS).mono ?_;rintro e wp ⟨⟨bk, bv, bc, dk0, dv, dc, rfl, hR, q1, q2, q3⟩, b7⟩;simp only [nodV];refine HK.out _ _ ?_ ?_
  ·exact hS.trans (G := fun _ => False) (Frm.of_below b7) (fun _ hx => hx.elim)
  clear HK K;try simp only [Act.put, SL]
  have hS9 := hS.trans (G := fun _ => False) (Frm.of_below b7) (fun _ hx => hx.elim);clear hS;have hS := hS9;clear hS9;have HBK7 := Hd (HBK.out.trans (b7.mono HBK.out.size));have HR7 := Hd hR;have Q7 : Hid ((∀ y, bk = some y → w4.heap.size ≤ y.block) ∧ (∀ y, bv = some y → w4.heap.size ≤ y.block) ∧ ∀ y, bc = some y → w4.heap.size ≤ y.block) := Hd ⟨fun y hy => Nat.le_trans HBK.out.size (q1 y hy), fun y hy => Nat.le_trans HBK.out.size (q2 y hy), fun y hy => Nat.le_trans HBK.out.size (q3 y hy)⟩;have HBX7 := Hd (kept HBX.out b7);clear HBX;have HBX := HBX7;clear HBX7
  have BXR7 : Hid (bx < wp.heap.size) := Hd (Nat.lt_of_lt_of_le BXR.out b7.size);clear BXR;have BXR := BXR7;clear BXR7;clear HBK;have HBK := HBK7;clear HBK7 hR q1 q2 q3 b7;refine Hs 8 (fun K HK => ?_);go_simp;go_wp2_with fail;refine (GW.out _ bk bv bc dk0 dv dc HBK.out HR7.out ⟨Q7.out.1, Q7.out.2.1, Q7.out.2.2⟩).mono ?_;rintro e wh ⟨g1, g2, g3, KM, QM, dk', st', rfl, ⟨F', t1, t2, t3⟩, u1, u2, u3, u4, u5, u6⟩;refine HK.out _ _ ?_ ?_
  ·exact hS.trans t2 (fun k hk => .inl hk)
  clear HK K;try simp only [Act.put, SL]
  have hS9 := hS.trans t2 (fun k hk => .inl hk);clear hS;have hS := hS9;clear hS9;have GR8 := Hd (And.intro t1 (And.intro t2 (And.intro t3 (And.intro u1 (And.intro u2 (And.intro u3 (And.intro u4 (And.intro u5 u6))))))));have FH : Hid (Frm (fun k => k = wh.heap.size) wh wh) := Hd (Frm.refl _ _)
  have nb8 : ¬ F' bx := fun hx => by
   rcases t3 _ hx with h1 | h1
   ·have := HL.out _ h1; have := BXL.out; have := HPS.out.fr.size; omega
   ·have := BXR.out; omega
  have NB8 := Hd nb8;have HBX8 := Hd ((t2.block bx BXR.out (fun hx => by have := HL.out _ hx; have := BXL.out; have := HPS.out.fr.size; omega)).trans HBX.out);clear HBX nb8;have HBX := HBX8;clear HBX8;have FE : Hid (Frm (fun k => k = bx) wh wh) := Hd (Frm.refl _ _);obtain ⟨a0, a1, a2, f0, f1, f2⟩ := gr_cells HBX.out;clear t1 t2 t3 u1 u2 u3 u4 u5 u6 FH;refine Hu 9 36 hS ?_;simp only [SL];refine Hu 10 46 hS ?_;simp only [SL];refine Hu 11 47 hS ?_;simp only [SL];refine Hs 13 (fun K HK => ?_);go_simp;refine HK.out _ _ ?_ ?_
  ·exact put3_frm hS _ _ _ _ (.inr BXL.out)
  clear HK K;try simp only [Act.put, SL]
  have hS9 := put3_frm hS bx g1 g2 g3 (.inr BXL.out);clear hS;unfold put3 at hS9;have hS := hS9;clear hS9 a0 a1 a2 f0 f1 f2;refine Hu 14 11 hS ?_;simp only [SL];refine wpAnyH_done (by kernel_rfl) ?_ _;have g8 := GR8.out
  exact REST.out _ _ _ _ _ _ _ _ _ _ _ _ _ _ _ _ _ _ _ _ _ _ _ _ _ _ _ _ _ _ _ _ _ _ _ _ _ _ _ _ _ _ _ _ _ _ _ _ _ _ _ _ (putJ_start HPS.out HBK.out g8.1 g8.2.1 g8.2.2.1 NB8.out BXL.out (put3_frm FE.out bx g1 g2 g3 (.inl rfl)) (put3_block HBX.out) g8.2.2.2.1 g8.2.2.2.2.1 ⟨g8.2.2.2.2.2.2.2.1, g8.2.2.2.2.2.2.2.2⟩ g8.2.2.2.2.2.1 (fun k hk => g8.2.2.2.2.2.2.1 (k + 2 * fs.length + 1) (by rw [HFL.out]; exact hk.le (by omega))))
def SD (w : World) (d s : Nat) (dk : DkS) (st : ShS) (F : Nat → Prop) : Prop := ∃ FD FS, DS w d s dk st FD FS ∧ ∀ k, F k ↔ FD k ∨ FS k
def SDPost (w : World) (d s : Nat) (dk : DkS) (st : ShS) (F : Nat → Prop) (w' : World) : Prop := ∃ F', SD w' d s dk st F' ∧ Frm F w w' ∧ ∀ k, F' k → F k ∨ w.heap.size ≤ k
theorem SD.lt {w : World} {d s : Nat} {dk : DkS} {st : ShS} {F : Nat → Prop} (h : SD w d s dk st F) (k : Nat) (hk : F k) : k < w.heap.size := by
 obtain ⟨FD, FS, hd, he⟩ := h
 rcases (he k).1 hk with h1 | h1
 ·obtain ⟨a, b, c, h2, h3⟩ := hd.dk
  exact h2.lt k ((h3 k).1 h1)
 ·exact hd.sto.lt k h1
theorem SD.frm {w w' : World} {d s : Nat} {dk : DkS} {st : ShS} {F G : Nat → Prop} (h : SD w d s dk st F) (hf : Frm G w w') (hd : ∀ k, F k → ¬ G k) : SD w' d s dk st F := by
 obtain ⟨FD, FS, hi, he⟩ := h;exact ⟨FD, FS, ⟨hi.dk.frm hf fun k hk => hd k ((he k).2 (.inl hk)), hi.sto.frm hf fun k hk => hd k ((he k).2 (.inr hk)), hi.apart⟩, he⟩
theorem SD.below {w w' : World} {d s : Nat} {dk : DkS} {st : ShS} {F : Nat → Prop} (h : SD w d s dk st F) (hb : Below w.heap.size w w') : SD w' d s dk st F := h.frm (G := fun _ => False) (Frm.of_below hb) fun _ _ hx => hx
theorem SD.visit {w : World} {d s : Nat} {dk : DkS} {st : ShS} {F : Nat → Prop} (h : SD w d s dk st F) : TS (w.alloc (visO s 0)) d s w.heap.size dk st 0 (fun k => F k ∨ k = w.heap.size) := by
 have hl := h.lt;obtain ⟨FD, FS, hi, he⟩ := h.below ((Below.refl _ w).alloc (Nat.le_refl _) (visO s 0));refine ⟨FD, FS, ⟨hi, han w _, fun hk => ?_, fun hk => ?_⟩, fun k => ?_⟩
 ·have := hl _ ((he _).2 (.inl hk)); omega
 ·have := hl _ ((he _).2 (.inr hk)); omega
 ·show (F k ∨ k = w.heap.size) ↔ _
  rw [he, or_assoc]
theorem TSPost.ends {w w' : World} {d s r : Nat} {dk dk' : DkS} {st st' : ShS} {F : Nat → Prop} (hp : TSPost (w.alloc (visO s 0)) d s w.heap.size dk' st' r (fun k => F k ∨ k = w.heap.size) w') : SDPost w d s dk' st' F w' := by
 obtain ⟨F', ⟨FD, FS, hi, he⟩, h2, h3⟩ := hp;have hz : (w.alloc (visO s 0)).heap.size = w.heap.size + 1 := by simp
 refine ⟨fun k => FD k ∨ FS k, ⟨FD, FS, hi.ds, fun _ => Iff.rfl⟩, ?_, fun k hk => ?_⟩
 ·exact ((Frm.refl F w).alloc (visO s 0)).trans h2 (fun k hk => hk.imp id (fun e => by omega))
 ·have hk' : F' k := (he k).2 (hk.elim .inl fun h => .inr (.inl h))
  rcases h3 k hk' with (h1 | h1) | h1
  ·exact .inl h1
  ·exact .inr (by omega)
  ·exact .inr (by omega)
theorem two_filters {α : Type} (p q : α → Bool) (h : ∀ x, p x = true → q x = false) (m : List α) : (m.filter p).length + (m.filter q).length ≤ m.length := by
 induction m with
 | nil => simp
 | cons a m ih =>
  rw [List.filter_cons, List.filter_cons, List.length_cons]
  cases hp : p a with
  | true =>
   rw [if_pos rfl, h a hp, if_neg (by decide), List.length_cons]; omega
  | false =>
   rw [if_neg (by decide)]
   split
   ·rw [List.length_cons]; omega
   ·omega
theorem insE_len (k : Int) (v : ByteArray) (m : List Ent) : (insE k v m).length ≤ m.length + 1 := by
 unfold insE;rw [List.length_append, List.length_cons];have := two_filters (fun e : Ent => decide (e.1 < k)) (fun e => decide (k < e.1)) (fun x hx => decide_eq_false (by have := of_decide_eq_true hx; omega)) m;exact Nat.succ_le_succ this
theorem subset_len : ∀ (L M : List Int), L.Nodup → (∀ x ∈ L, x ∈ M) → L.length ≤ M.length := by
 intro L
 induction L with
 | nil => intro M _ _; simp
 | cons a L ih =>
  intro M hn hs;obtain ⟨h1, h2⟩ := List.nodup_cons.1 hn;have ha := hs a (by simp);have := ih (M.erase a) h2 (fun x hx => (List.mem_erase_of_ne (fun (e : x = a) => h1 (e ▸ hx))).2 (hs x (by simp [hx])));rw [List.length_erase_of_mem ha] at this;have hM : 0 < M.length := List.length_pos_of_mem ha;rw [List.length_cons]; omega
theorem TreeI.room {dk : DkS} {st : ShS} {root : Int} {E : List Ent} (h : TreeI dk st root E) (g : Good dk st) (k : Nat) (hu : usedN st dk.S.length + 2 * E.length + 2 + k ≤ dk.S.length) : Room dk st k := by
 have key : ∀ P, LiveL st P → P.length ≤ 2 * E.length → Room dk st k := by
  intro P hl hp;have := subset_len st.fresh P g.fn (fun x hx => (hl.2 x).2 (.inl hx));unfold Room; omega
 rcases h with ⟨_, rfl, hl⟩ | ⟨hh, F, P, ht, hs, rfl, hl⟩
 ·exact key [] hl (by simp)
 ·exact key P hl (by have := (IsT_count ht).1; omega)
theorem TreeI.root0 {dk : DkS} {st : ShS} {root : Int} {E : List Ent} (h : TreeI dk st root E) (h0 : root = 0) : E = [] ∧ LiveL st [] := by
 rcases h with ⟨_, h1, h2⟩ | ⟨hh, F, P, ⟨M, PM, m1, _⟩, _⟩
 ·exact ⟨h1, h2⟩
 ·have := (Rn_read m1).1; omega
theorem TreeI.rootN {dk : DkS} {st : ShS} {root : Int} {E : List Ent} (h : TreeI dk st root E) (h0 : root ≠ 0) (hE : E.length ≤ 600) : ∃ hh F P, IsT (Rn dk) hh root F P ∧ SortM F ∧ entsM F = E ∧ LiveL st P ∧ hh ≤ 9 := by
 rcases h with ⟨h1, _⟩ | ⟨hh, F, P, ht, hs, he, hl⟩
 ·exact absurd h1 h0
 ·refine ⟨hh, F, P, ht, hs, he, hl, ?_⟩
  have := (IsT_count ht).2;rw [he] at this;apply Decidable.byContradiction;intro hx;have h10 : 2 ^ 10 ≤ 2 ^ hh := Nat.pow_le_pow_right (by decide) (by omega);omega
def PutR (w : World) (d s : Nat) (dk : DkS) (st : ShS) (F : Nat → Prop) (E : List Ent) (e : Ending) (w' : World) : Prop :=
 ∃ q dk' st', e = .returned (.tuple #[.int .i64 q, .int .i64 0]) ∧ SDPost w d s dk' st' F w' ∧ TreeI dk' st' q E ∧ To dk st dk' st'
theorem vtop_is (w : World) (d s g : Nat) (dk : DkS) (st : ShS) (r : Nat) (F : Nat → Prop) (h : TS w d s g dk st r F) (G : Good dk st) (p i : Int) (fd : Bool) (hh : Nat) (N : Nod) (E : List Ent) (ha : AtI dk st [] hh p N E) (hb : NB N 240) (ak av ac : Option Addr) (ck cv cc : Nat) (hN : RowsA w N ak av ac ck cv cc F) (hroom : Room dk st 1) :
  Calls Tryz.prog 51 #[.pointer (some ⟨g, 0, none⟩), .agg #[.int .i64 p, .int .i64 i, .bool fd, .bool N.leaf, .slice ak N.K.length ck, .slice av N.V.length cv, .slice ac N.C.length cc]] w (PutT w d s g dk st F E 1) := by
 obtain ⟨w1, hw1⟩ : ∃ w1, w.alloc (.cells #[.int .i64 p, .int .i64 i, .bool fd, .bool N.leaf, .slice ak N.K.length ck, .slice av N.V.length cv, .slice ac N.C.length cc] 99) = w1 := ⟨_, rfl⟩
 have B1 : Below w.heap.size w w1 := by rw [← hw1]; exact (Below.refl _ w).alloc (Nat.le_refl _) _
 have X1 : w1.heap[w.heap.size]? = some (.cells #[.int .i64 p, .int .i64 i, .bool fd, .bool N.leaf, .slice ak N.K.length ck, .slice av N.V.length cv, .slice ac N.C.length cc] 99) := by rw [← hw1]; exact han w _
 have HLT := Hd h.lt;have T1 := h.below B1;obtain ⟨b0, b1, b2, b3, b4, b5, b6⟩ := cells7 X1;have hlive := ha.live
 by_cases hk : N.K = []
 ·have hk0 : ¬ (0 : Int) < (N.K.length : Int) := by rw [hk]; simp
  obtain ⟨q1, q2, q3⟩ := given_of G p hlive
  have hp64 : p < 9223372036854775808 ∧ (hasB st.h.used p = true → 2 ≤ p ∧ p < 640) := by
   have := G.few
   rcases hlive with hx | hx
   ·have := G.fb p hx; exact ⟨by omega, fun h1 => by rw [(G.fb p hx).2.2] at h1; cases h1⟩
   ·have := G.ub p hx.1; exact ⟨by omega, fun _ => by omega⟩
  have GV : Hid (Calls Tryz.prog 89 #[.pointer (some ⟨s, 0, none⟩), .int .i64 p] w1.drew fun e w' => e = .returned (.int .i64 0) ∧ Frm F w1 w' ∧ w'.cell? ⟨g, 0, none⟩ = some (.pointer (some ⟨s, 0, none⟩)) ∧ TSPost w d s g dk (st.give p).1 r F w' ∧ RowsA w' N ak av ac ck cv cc F) := Hd (by
   have bd : Below w.heap.size w w1.drew := B1.drew;obtain ⟨FD2, FS2, hi2, he2⟩ := h.below bd;refine (give_is w1.drew s d st FS2 hi2.ds.sto p hp64.1 hp64.2).mono fun e w' ⟨r1, r2, r3⟩ => ?_
   have hp := TSPost.ofDS hi2 he2 (DSPost.store hi2.ds r3 r2);have hfr : Frm F w1 w' := ((Frm.refl F w1).drew).trans (r3.mono (fun k hk => (he2 k).2 (.inr (.inl hk)))) (fun k hk => .inl hk);refine ⟨by rw [r1, q2], hfr, ?_, TSPost.chain bd hp, (hN.below bd).frm r3 (fun k hk => (he2 k).2 (.inr (.inl hk)))⟩;obtain ⟨F', ⟨_, _, hi3, _⟩, _⟩ := hp;exact (vis_cells hi3.v).1)
  have L1 : Hid (w.heap.size < w1.heap.size) := Hd (zl X1);have LF : Hid (¬ F w.heap.size) := Hd (fun hx => by have := HLT.out _ hx; omega)
  have v0 : w1.drew.cell? ⟨g, 0, none⟩ = some (.pointer (some ⟨s, 0, none⟩)) := by
   obtain ⟨_, _, hi2, _⟩ := T1;exact (vis_cells hi2.v).1
  have HX := Hd X1
  cases hlf : N.leaf with
  | true =>
   have FINP := top_leaf ha hk hlf q1;have FINQ : Hid (∀ w3, TSPost w d s g dk (st.give p).1 r F w3 → PutT w d s g dk st F E 1 (.returned (.tuple #[.int .i64 0, .int .i64 0])) w3) := Hd (fun w3 h3 => ⟨0, dk, _, r, rfl, h3, FINP, q1.tt, fun k hk => (q3 _ hk).le (by omega)⟩);rw [hlf] at HX b3;clear h G ha hb hN hroom B1 T1 hlive hp64 q1 q2 q3 FINP hk X1;go_enter Tryz.func51, Tryz.ntmps51;rw [hlf] at hw1;go_upto_region 3 with fail
   try rw [hw1]
   clear hw1;refine wp_region_held_drew (S := fun wz => Frm F w1 wz ∧ wz.cell? ⟨g, 0, none⟩ = some (.pointer (some ⟨s, 0, none⟩))) (by kernel_rfl) ⟨(Frm.refl F w1).drew, v0⟩ (fun hS => ?_);refine Hu 0 20 hS ?_;simp only [SL];refine Hu 1 21 hS ?_;simp only [SL];refine Hu 2 22 hS ?_;simp only [SL];refine Hv 3 23 ?va3x4 hS ?ha3x4 ?_
   case ha3x4 =>
    intro w9 s9;have c := s9.2;clear s9;go_simp;try (with_reducible rfl)
   simp only [SL];refine Hu 4 24 hS ?_;simp only [SL];refine Hv 5 25 ?va5x6 hS ?ha5x6 ?_
   case ha5x6 =>
    intro w9 s9;have c := cl ((s9.1.block _ L1.out LF.out).trans HX.out) 0 rfl;clear s9;go_simp;try (with_reducible rfl)
   simp only [SL];refine Hs 6 (fun K HK => ?_);go_simp;go_wp2_with fail;refine GV.out.mono ?_;rintro e w3 ⟨rfl, h3⟩;have H3 := Hd h3;refine HK.out _ _ ?_ ?_
   ·exact ⟨Frm.trans (F := F) (Frm.refl F w1) h3.1 (fun _ hx => .inl hx), h3.2.1⟩
   clear HK K;try simp only [Act.put, SL]
   clear hS;have hS := And.intro h3.1 h3.2.1;clear h3;refine Hu 7 6 hS ?_;simp only [SL];refine wpAnyH_done (by kernel_rfl) ?_ _;clear hS;have X3 := (H3.out.1.block w.heap.size L1.out LF.out).trans HX.out;obtain ⟨_, _, _, c3, _⟩ := cells7 X3;have HF := Hd (FINQ.out _ H3.out.2.2.1);clear X3 b0 b1 b2 b3 b4 b5 b6 v0;go_wp2_with fail;go_ret2;exact HF.out
  | false =>
   obtain ⟨q, hC, FINP⟩ := top_kid ha hk hlf q1;have FINQ : Hid (∀ w3, TSPost w d s g dk (st.give p).1 r F w3 → PutT w d s g dk st F E 1 (.returned (.tuple #[.int .i64 q, .int .i64 0])) w3) := Hd (fun w3 h3 => ⟨q, dk, _, r, rfl, h3, FINP, q1.tt, fun k hk => (q3 _ hk).le (by omega)⟩)
   have KID : Hid (∀ w3, RowsA w3 N ak av ac ck cv cc F → ∃ cb off, ac = some ⟨cb, off, none⟩ ∧ w3.cell? ⟨cb, off, none⟩ = some (.int .i64 q)) := Hd (fun w3 h3 => by
    have hc := h3.r.c;rw [hC] at hc;obtain ⟨cb, off, e1, _, e2⟩ := hc.at 0 (by simp);exact ⟨cb, off, e1, e2⟩)
   have hcl : N.C.length = 1 := by rw [hC]; rfl
   rw [hlf] at HX b3;obtain ⟨cb, off, rfl, _⟩ := KID.out _ hN;rw [hcl] at HX b6 hw1;clear h G ha hb hN hroom B1 T1 hlive hp64 q1 q2 q3 FINP hk X1 hC;rw [hcl];have HCL := Hd hcl;clear hcl;go_enter Tryz.func51, Tryz.ntmps51;rw [hlf] at hw1;go_upto_region 3 with fail
   try rw [hw1]
   clear hw1;refine wp_region_held_drew (S := fun wz => Frm F w1 wz ∧ wz.cell? ⟨g, 0, none⟩ = some (.pointer (some ⟨s, 0, none⟩))) (by kernel_rfl) ⟨(Frm.refl F w1).drew, v0⟩ (fun hS => ?_);refine Hu 0 20 hS ?_;simp only [SL];refine Hu 1 21 hS ?_;simp only [SL];refine Hu 2 22 hS ?_;simp only [SL];refine Hv 3 23 ?vb3x4 hS ?hb3x4 ?_
   case hb3x4 =>
    intro w9 s9;have c := s9.2;clear s9;go_simp;try (with_reducible rfl)
   simp only [SL];refine Hu 4 24 hS ?_;simp only [SL];refine Hv 5 25 ?vb5x6 hS ?hb5x6 ?_
   case hb5x6 =>
    intro w9 s9;have c := cl ((s9.1.block _ L1.out LF.out).trans HX.out) 0 rfl;clear s9;go_simp;try (with_reducible rfl)
   simp only [SL];refine Hs 6 (fun K HK => ?_);go_simp;go_wp2_with fail;refine GV.out.mono ?_;rintro e w3 ⟨rfl, h3⟩;have H3 := Hd h3;refine HK.out _ _ ?_ ?_
   ·exact ⟨Frm.trans (F := F) (Frm.refl F w1) h3.1 (fun _ hx => .inl hx), h3.2.1⟩
   clear HK K;try simp only [Act.put, SL]
   clear hS;have hS := And.intro h3.1 h3.2.1;clear h3;refine Hu 7 6 hS ?_;simp only [SL];refine wpAnyH_done (by kernel_rfl) ?_ _;clear hS;have X3 := (H3.out.1.block w.heap.size L1.out LF.out).trans HX.out;obtain ⟨_, _, _, c3, _, _, c6⟩ := cells7 X3;obtain ⟨cb', off', e1, e2⟩ := KID.out _ H3.out.2.2.2;injection e1 with e1;injection e1 with ea eb;subst ea eb;have HF := Hd (FINQ.out _ H3.out.2.2.1);clear X3 b0 b1 b2 b3 b4 b5 b6 v0;go_wp2_with fail;go_ret2;exact HF.out
 ·have hk0 : (0 : Int) < (N.K.length : Int) := by have := List.length_pos_iff.2 hk; omega
  have hr := ha.right hb hk
  have LY : Hid (Calls Tryz.prog 87 #[.pointer (some ⟨g, 0, none⟩), .int .i64 p, nodV N ak av ac ck cv cc] w1 (PutT w d s g dk st F E 1)) := Hd (by
   refine (vlay_is w1 d s g dk st r F T1 G p hlive hroom N hr ak av ac ck cv cc (hN.below B1)).mono ?_;rintro e w' ⟨q, dk', st', rfl, h1, h2, h3⟩;exact ⟨q, dk', st', r, rfl, TSPost.chain B1 h1, top_lay ha hk h2, h2.tt, h3⟩)
  clear h G ha hb hN hroom B1 T1 X1 hlive hr hk;unfold nodV at LY;go_enter Tryz.func51, Tryz.ntmps51;go_wp2_with fail;refine LY.out.mono ?_;rintro e w2 ⟨q, dk', st', r', rfl, z2, z3, z4, z5⟩;have FIN : Hid (PutT w d s g dk st F E 1 (.returned (.tuple #[.int .i64 q, .int .i64 0])) w2) := Hd ⟨q, dk', st', r', rfl, z2, z3, z4, z5⟩;clear z2 z3 z4 z5;go_wp2_with fail;go_ret2;exact FIN.out
def nodG (lo : Nat) (lf : Bool) (X1 X2 X3 : List Value) : SP := ⟨fun v w => ∃ xa xb xc ja jb jc, v = .agg #[.bool lf, .slice xa X1.length ja, .slice xb X2.length jb, .slice xc X3.length jc] ∧ Rd w xa X1 ∧ Rd w xb X2 ∧ Rd w xc X3 ∧ X1.length ≤ ja ∧ ja ≤ maxLen ∧ X2.length ≤ jb ∧ jb ≤ maxLen ∧ X3.length ≤ jc ∧ jc ≤ maxLen ∧ (∀ x, xa = some x → lo ≤ x.block) ∧ (∀ x, xb = some x → lo ≤ x.block) ∧ ∀ x, xc = some x → lo ≤ x.block,
 fun _ _ _ ⟨xa, xb, xc, ja, jb, jc, h, q1, q2, q3, q⟩ hb => ⟨xa, xb, xc, ja, jb, jc, h, q1.below hb, q2.below hb, q3.below hb, q⟩⟩
def TOut (lo : Nat) (lf : Bool) (X1 X2 X3 : List Value) (e : Ending) (w' : World) : Prop := ∃ xa xb xc ja jb jc, e = .returned (.agg #[.bool lf, .slice xa X1.length ja, .slice xb X2.length jb, .slice xc X3.length jc]) ∧ Rd w' xa X1 ∧ Rd w' xb X2 ∧ Rd w' xc X3 ∧ X1.length ≤ ja ∧ ja ≤ maxLen ∧ X2.length ≤ jb ∧ jb ≤ maxLen ∧ X3.length ≤ jc ∧ jc ≤ maxLen ∧ (∀ x, xa = some x → lo ≤ x.block) ∧ (∀ x, xb = some x → lo ≤ x.block) ∧ ∀ x, xc = some x → lo ≤ x.block
theorem together_leaf (ak av ac bk bv bc : Option Addr) (ck cv cc dk dv dc lk lv lc mk mv mc : Nat) (lb : Bool) (mid : Int) (X1 X2 X3 : List Value) (w : World)
  (C1 : Hid (∀ wx a, Below w.heap.size w wx → Rd wx a [.slice ak lk ck, .slice none 0 0, .slice bk mk dk] → Calls Tryz.prog 112 #[.slice a 3 3] wx fun e w' => RowOut wx.heap.size 28 X1 e w' ∧ Below wx.heap.size wx w'))
  (C2 : Hid (∀ wx a, Below w.heap.size w wx → Rd wx a [.slice av lv cv, .slice bv mv dv] → Calls Tryz.prog 113 #[.slice a 2 2] wx fun e w' => RowOut wx.heap.size 9 X2 e w' ∧ Below wx.heap.size wx w'))
  (C3 : Hid (∀ wx a, Below w.heap.size w wx → Rd wx a [.slice ac lc cc, .slice bc mc dc] → Calls Tryz.prog 133 #[.slice a 2 2] wx fun e w' => RowOut wx.heap.size 3 X3 e w' ∧ Below wx.heap.size wx w')) :
  Calls Tryz.prog 115 #[.agg #[.bool true, .slice ak lk ck, .slice av lv cv, .slice ac lc cc], .int .u64 mid, .agg #[.bool lb, .slice bk mk dk, .slice bv mv dv, .slice bc mc dc]] w fun e w' => TOut w.heap.size true X1 X2 X3 e w' ∧ Below w.heap.size w w' := by
 obtain ⟨W, hW⟩ : ∃ W, ((w.alloc (.cells #[.bool true, .slice ak lk ck, .slice av lv cv, .slice ac lc cc] 97)).alloc (.cells #[.bool lb, .slice bk mk dk, .slice bv mv dv, .slice bc mc dc] 97)).alloc (.cells #[.bool false, .slice none 0 0, .slice none 0 0, .slice none 0 0] 97) = W := ⟨_, rfl⟩
 have hsz : (w.alloc (.cells #[.bool true, .slice ak lk ck, .slice av lv cv, .slice ac lc cc] 97)).heap.size = w.heap.size + 1 := by simp
 have hsz2 : ((w.alloc (.cells #[.bool true, .slice ak lk ck, .slice av lv cv, .slice ac lc cc] 97)).alloc (.cells #[.bool lb, .slice bk mk dk, .slice bv mv dv, .slice bc mc dc] 97)).heap.size = w.heap.size + 2 := by simp
 have hsz3 : W.heap.size = w.heap.size + 3 := by rw [← hW]; simp
 have bW : Below w.heap.size w W := by rw [← hW]; exact ((Br.alloc (Nat.le_refl _) _).alloc (by simp) _).alloc (by simp; omega) _
 have XA : Hid (W.heap[w.heap.size]? = some (.cells #[.bool true, .slice ak lk ck, .slice av lv cv, .slice ac lc cc] 97)) := Hd (by rw [← hW]; exact (hao _ _ (by simp; omega)).trans ((hao _ _ (by simp)).trans (han w _)));have XB : Hid (W.heap[w.heap.size + 1]? = some (.cells #[.bool lb, .slice bk mk dk, .slice bv mv dv, .slice bc mc dc] 97)) := Hd (by rw [← hW, ← hsz]; exact (hao _ _ (by simp)).trans (han _ _))
 have XZ : Hid (W.heap[w.heap.size + 2]? = some (.cells #[.bool false, .slice none 0 0, .slice none 0 0, .slice none 0 0] 97)) := Hd (by rw [← hW, ← hsz2]; exact han _ _);have b2 : Below W.heap.size W W := Br;have XA2 := Hd (kept XA.out b2);have XB2 := Hd (kept XB.out b2);have XZ2 := Hd (kept XZ.out b2);have B2 := Hd (bW.trans (b2.mono bW.size));have za0 := cl XA.out 0 rfl;have za1 := cl XA.out 1 rfl;have za2 := cl XA.out 2 rfl;have za3 := cl XA.out 3 rfl;clear bW b2 hsz hsz2;go_enter Tryz.func115, Tryz.ntmps115;go_upto_region 4 with fail
 try rw [hW]
 try rw [hsz3]
 try rw [show w.heap.size + 1 + 1 = w.heap.size + 2 from rfl]
 skip
 clear za0 za1 za2 za3 hW hsz3 XA XB XZ;have lt0 : w.heap.size < W.heap.size := (zl XA2.out);have lt1 : w.heap.size + 1 < W.heap.size := (zl XB2.out);have lt2 : w.heap.size + 2 < W.heap.size := (zl XZ2.out);have ca0 := cl XA2.out 0 rfl;have ca1 := cl XA2.out 1 rfl;have ca2 := cl XA2.out 2 rfl;have ca3 := cl XA2.out 3 rfl;have cb0 := cl XB2.out 0 rfl;have cb1 := cl XB2.out 1 rfl;have cb2 := cl XB2.out 2 rfl;have cb3 := cl XB2.out 3 rfl
 refine region_kit 22 35 [eqV (.pointer (some ⟨w.heap.size, 0, none⟩)), eqV (.bool true), eqV (.pointer (some ⟨w.heap.size, 1, none⟩)), eqV (.slice ak lk ck), eqV (.slice none 0 0), eqV (.pointer (some ⟨w.heap.size + 1, 1, none⟩)), eqV (.slice bk mk dk), lstV [.slice ak lk ck, .slice none 0 0, .slice bk mk dk], rdFV W.heap.size X1, eqV (.pointer (some ⟨w.heap.size, 2, none⟩)), eqV (.slice av lv cv), eqV (.pointer (some ⟨w.heap.size + 1, 2, none⟩)), eqV (.slice bv mv dv), lstV [.slice av lv cv, .slice bv mv dv], rdFV W.heap.size X2, eqV (.pointer (some ⟨w.heap.size, 3, none⟩)), eqV (.slice ac lc cc), eqV (.pointer (some ⟨w.heap.size + 1, 3, none⟩)), eqV (.slice bc mc dc), lstV [.slice ac lc cc, .slice bc mc dc], rdFV W.heap.size X3, nodG W.heap.size true X1 X2 X3, anyV] (by kernel_rfl) (by kernel_rfl) (by rfl) ?owes ?ends
 case owes =>
  refine Fo 0 (fun a wx hS xo xd K HK => ?_) ?_
  ·have d3 := Fl xo 3
   clear xo xd;go_simp;exact Hr HK
  refine Fo 1 (fun a wx hS xo xd K HK => ?_) ?_
  ·have d13 := Fq xd 0
   clear xo xd;have c0 := hC ca0 hS lt0;go_simp;exact Hr HK
  refine Fo 2 (fun a wx hS xo xd K HK => ?_) ?_
  ·have d3 := Fl xo 3
   clear xo xd;go_simp;exact Hr HK
  refine Fo 3 (fun a wx hS xo xd K HK => ?_) ?_
  ·have d15 := Fq xd 2
   clear xo xd;have c0 := hC ca1 hS lt0;go_simp;exact Hr HK
  refine Fo 4 (fun a wx hS xo xd K HK => ?_) ?_
  ·have d7 := Fl xo 7
   clear xo xd;go_simp;exact Hr HK
  refine Fo 5 (fun a wx hS xo xd K HK => ?_) ?_
  ·have d5 := Fl xo 5
   clear xo xd;go_simp;exact Hr HK
  refine Fo 6 (fun a wx hS xo xd K HK => ?_) ?_
  ·have d18 := Fq xd 5
   clear xo xd;have c0 := hC cb1 hS lt1;go_simp;exact Hr HK
  refine Fo 7 (fun a wx hS xo xd K HK => ?_) ?_
  ·have d16 := Fq xd 3
   have d17 := Fq xd 4;have d19 := Fq xd 6;clear xo xd;go_simp;exact HK.out _ _ ⟨_, rfl, Rd.made _ _ _⟩ (below_made _ _)
  refine Fo 8 (fun a wx hS xo xd K HK => ?_) ?_
  ·obtain ⟨a20, d20, r20⟩ := Fr xd 7
   clear xo xd;have CA := C1.out wx a20 (chain B2.out hS) r20;clear r20;go_simp;go_wp2_with fail;refine CA.mono ?_;rintro e w9 ⟨⟨v9, rfl, h9⟩, b9⟩;exact HK.out _ _ (out_rdFV h9 hS.size) b9
  refine Fo 9 (fun a wx hS xo xd K HK => ?_) ?_
  ·have d3 := Fl xo 3
   clear xo xd;go_simp;exact Hr HK
  refine Fo 10 (fun a wx hS xo xd K HK => ?_) ?_
  ·have d22 := Fq xd 9
   clear xo xd;have c0 := hC ca2 hS lt0;go_simp;exact Hr HK
  refine Fo 11 (fun a wx hS xo xd K HK => ?_) ?_
  ·have d5 := Fl xo 5
   clear xo xd;go_simp;exact Hr HK
  refine Fo 12 (fun a wx hS xo xd K HK => ?_) ?_
  ·have d24 := Fq xd 11
   clear xo xd;have c0 := hC cb2 hS lt1;go_simp;exact Hr HK
  refine Fo 13 (fun a wx hS xo xd K HK => ?_) ?_
  ·have d23 := Fq xd 10
   have d25 := Fq xd 12;clear xo xd;go_simp;exact HK.out _ _ ⟨_, rfl, Rd.made _ _ _⟩ (below_made _ _)
  refine Fo 14 (fun a wx hS xo xd K HK => ?_) ?_
  ·obtain ⟨a26, d26, r26⟩ := Fr xd 13
   clear xo xd;have CA := C2.out wx a26 (chain B2.out hS) r26;clear r26;go_simp;go_wp2_with fail;refine CA.mono ?_;rintro e w9 ⟨⟨v9, rfl, h9⟩, b9⟩;exact HK.out _ _ (out_rdFV h9 hS.size) b9
  refine Fo 15 (fun a wx hS xo xd K HK => ?_) ?_
  ·have d3 := Fl xo 3
   clear xo xd;go_simp;exact Hr HK
  refine Fo 16 (fun a wx hS xo xd K HK => ?_) ?_
  ·have d28 := Fq xd 15
   clear xo xd;have c0 := hC ca3 hS lt0;go_simp;exact Hr HK
  refine Fo 17 (fun a wx hS xo xd K HK => ?_) ?_
  ·have d5 := Fl xo 5
   clear xo xd;go_simp;exact Hr HK
  refine Fo 18 (fun a wx hS xo xd K HK => ?_) ?_
  ·have d30 := Fq xd 17
   clear xo xd;have c0 := hC cb3 hS lt1;go_simp;exact Hr HK
  refine Fo 19 (fun a wx hS xo xd K HK => ?_) ?_
  ·have d29 := Fq xd 16
   have d31 := Fq xd 18;clear xo xd;go_simp;exact HK.out _ _ ⟨_, rfl, Rd.made _ _ _⟩ (below_made _ _)
  refine Fo 20 (fun a wx hS xo xd K HK => ?_) ?_
  ·obtain ⟨a32, d32, r32⟩ := Fr xd 19
   clear xo xd;have CA := C3.out wx a32 (chain B2.out hS) r32;clear r32;go_simp;go_wp2_with fail;refine CA.mono ?_;rintro e w9 ⟨⟨v9, rfl, h9⟩, b9⟩;exact HK.out _ _ (out_rdFV h9 hS.size) b9
  refine Fo 21 (fun a wx hS xo xd K HK => ?_) ?_
  ·have d14 := Fq xd 1
   obtain ⟨a21, c21, d21, r21, l21, m21, n21⟩ := Fr xd 8;obtain ⟨a27, c27, d27, r27, l27, m27, n27⟩ := Fr xd 14;obtain ⟨a33, c33, d33, r33, l33, m33, n33⟩ := Fr xd 20;clear xo xd;go_simp;exact HK.out _ _ ⟨_, _, _, _, _, _, rfl, r21, r27, r33, l21, m21, l27, m27, l33, m33, n21, n27, n33⟩ Br
  refine OwesAll.skip (f := 22) ?_;exact OwesAll.nil
 case ends =>
  intro a wx hS hsz hdf hold hdone;simp only [List.getElem?_toArray, List.getElem?_cons_succ, List.getElem?_cons_zero, List.getElem?_nil];have hsz' : a.tmps.size = 35 := hsz;have hdf' : a.defers = [] := hdf;have ha := act_lit hsz' hdf';have e0 := hold 0 (unset_of (by kernel_rfl));have e1 := hold 1 (unset_of (by kernel_rfl));have e2 := hold 2 (unset_of (by kernel_rfl));have e3 := hold 3 (unset_of (by kernel_rfl));have e4 := hold 4 (unset_of (by kernel_rfl));have e5 := hold 5 (unset_of (by kernel_rfl));have e6 := hold 6 (unset_of (by kernel_rfl));have e7 := hold 7 (unset_of (by kernel_rfl))
  have e8 := hold 8 (unset_of (by kernel_rfl));have e9 := hold 9 (unset_of (by kernel_rfl));have e10 := hold 10 (unset_of (by kernel_rfl));have e11 := hold 11 (unset_of (by kernel_rfl));have e12 := hold 12 (unset_of (by kernel_rfl));obtain ⟨xa, xb, xc, ja, jb, jc, d34, q1, q2, q3, q4, q5, q6, q7, q8, q9, p1, p2, p3⟩ := hdone 21 _ 34 rfl (by decide) rfl;clear hold hdone hsz hdf hsz' hdf';simp only [Array.getD_eq_getD_getElem?, List.getElem?_toArray, List.getElem?_cons_succ, List.getElem?_cons_zero, Option.getD_some] at e0 e1 e2 e3 e4 e5 e6 e7 e8 e9 e10 e11 e12 d34
  simp only [show (List.range 35) = [0, 1, 2, 3, 4, 5, 6, 7, 8, 9, 10, 11, 12, 13, 14, 15, 16, 17, 18, 19, 20, 21, 22, 23, 24, 25, 26, 27, 28, 29, 30, 31, 32, 33, 34] from rfl, List.map_cons, List.map_nil] at ha;simp only [e0, e1, e2, e3, e4, e5, e6, e7, e8, e9, e10, e11, e12, d34] at ha;clear e0 e1 e2 e3 e4 e5 e6 e7 e8 e9 e10 e11 e12 d34;generalize a.tmps[13]?.getD undef = u13 at ha;generalize a.tmps[14]?.getD undef = u14 at ha;generalize a.tmps[15]?.getD undef = u15 at ha;generalize a.tmps[16]?.getD undef = u16 at ha;generalize a.tmps[17]?.getD undef = u17 at ha
  generalize a.tmps[18]?.getD undef = u18 at ha;generalize a.tmps[19]?.getD undef = u19 at ha;generalize a.tmps[20]?.getD undef = u20 at ha;generalize a.tmps[21]?.getD undef = u21 at ha;generalize a.tmps[22]?.getD undef = u22 at ha;generalize a.tmps[23]?.getD undef = u23 at ha;generalize a.tmps[24]?.getD undef = u24 at ha;generalize a.tmps[25]?.getD undef = u25 at ha;generalize a.tmps[26]?.getD undef = u26 at ha;generalize a.tmps[27]?.getD undef = u27 at ha;generalize a.tmps[28]?.getD undef = u28 at ha;generalize a.tmps[29]?.getD undef = u29 at ha;generalize a.tmps[30]?.getD undef = u30 at ha
  generalize a.tmps[31]?.getD undef = u31 at ha;generalize a.tmps[32]?.getD undef = u32 at ha;generalize a.tmps[33]?.getD undef = u33 at ha;subst ha;intro K hK;have HK := Hd hK;clear hK;have YZ := kept XZ2.out hS;have y0 := cl YZ 0 rfl;have y1 := cl YZ 1 rfl;have y2 := cl YZ 2 rfl;have y3 := cl YZ 3 rfl;have f0 := ufb YZ 0;have f1 := ufb YZ 1;have f2 := ufb YZ 2;have f3 := ufb YZ 3;have Y := Hd (cells4 (put4_block YZ (.bool true) (.slice xa X1.length ja) (.slice xb X2.length jb) (.slice xc X3.length jc)))
  have f4 : Frm (fun k => k = w.heap.size + 2) wx (put4 wx (w.heap.size + 2) (.bool true) (.slice xa X1.length ja) (.slice xb X2.length jb) (.slice xc X3.length jc)) := put4_frm (Frm.refl _ wx) _ _ _ _ _ (.inl rfl);have nb : ∀ (xo : Option Addr), (∀ x, xo = some x → W.heap.size ≤ x.block) → ∀ x, xo = some x → ¬ x.block = w.heap.size + 2 := fun xo h x hx e => by have := h x hx; omega
  have FIN : Hid (TOut w.heap.size true X1 X2 X3 (.returned (.agg #[.bool true, .slice xa X1.length ja, .slice xb X2.length jb, .slice xc X3.length jc])) (put4 wx (w.heap.size + 2) (.bool true) (.slice xa X1.length ja) (.slice xb X2.length jb) (.slice xc X3.length jc)) ∧ Below w.heap.size w (put4 wx (w.heap.size + 2) (.bool true) (.slice xa X1.length ja) (.slice xb X2.length jb) (.slice xc X3.length jc))) := Hd ⟨⟨xa, xb, xc, ja, jb, jc, rfl, q1.frm f4 (fun x hx _ => nb _ p1 x hx), q2.frm f4 (fun x hx _ => nb _ p2 x hx), q3.frm f4 (fun x hx _ => nb _ p3 x hx), q4, q5, q6, q7, q8, q9, fun x hx => by have := p1 x hx; omega, fun x hx => by have := p2 x hx; omega, fun x hx => by have := p3 x hx; omega⟩, put4_below (chain B2.out hS) _ _ _ _ _ (by omega)⟩
  unfold put4 at Y FIN;clear q1 q2 q3 q4 q5 q6 q7 q8 q9 p1 p2 p3 nb f4 YZ ca0 ca1 ca2 ca3 cb0 cb1 cb2 cb3 C1 C2 C3 XA2 XB2 XZ2 B2 hS;rw [if_pos (by rfl)];go_simp;refine HK.out _ _ ?_;clear y0 y1 y2 y3 f0 f1 f2 f3 HK K;go_wp2_with fail;exact bodyPost_ret (v := .agg #[.bool true, .slice xa X1.length ja, .slice xb X2.length jb, .slice xc X3.length jc]) (by simp [results, Tryz.results115, go_sem, Y.out.1, Y.out.2.1, Y.out.2.2.1, Y.out.2.2.2]) rfl FIN.out
theorem together_branch (ak av ac bk bv bc : Option Addr) (ck cv cc dk dv dc lk lv lc mk mv mc : Nat) (lb : Bool) (mid : Int) (X1 X2 X3 : List Value) (w : World)
  (C1 : Hid (∀ wx a, Below w.heap.size w wx → Rd wx a [.slice ak lk ck, .slice (some ⟨w.heap.size + 3, 0, none⟩) 1 1, .slice bk mk dk] → Rd wx (some ⟨w.heap.size + 3, 0, none⟩) [.int .u64 mid] → Calls Tryz.prog 112 #[.slice a 3 3] wx fun e w' => RowOut wx.heap.size 28 X1 e w' ∧ Below wx.heap.size wx w'))
  (C2 : Hid (∀ wx a, Below w.heap.size w wx → Rd wx a [.slice av lv cv, .slice bv mv dv] → Calls Tryz.prog 113 #[.slice a 2 2] wx fun e w' => RowOut wx.heap.size 9 X2 e w' ∧ Below wx.heap.size wx w'))
  (C3 : Hid (∀ wx a, Below w.heap.size w wx → Rd wx a [.slice ac lc cc, .slice bc mc dc] → Calls Tryz.prog 133 #[.slice a 2 2] wx fun e w' => RowOut wx.heap.size 3 X3 e w' ∧ Below wx.heap.size wx w')) :
  Calls Tryz.prog 115 #[.agg #[.bool false, .slice ak lk ck, .slice av lv cv, .slice ac lc cc], .int .u64 mid, .agg #[.bool lb, .slice bk mk dk, .slice bv mv dv, .slice bc mc dc]] w fun e w' => TOut w.heap.size false X1 X2 X3 e w' ∧ Below w.heap.size w w' := by
 obtain ⟨W, hW⟩ : ∃ W, ((w.alloc (.cells #[.bool false, .slice ak lk ck, .slice av lv cv, .slice ac lc cc] 97)).alloc (.cells #[.bool lb, .slice bk mk dk, .slice bv mv dv, .slice bc mc dc] 97)).alloc (.cells #[.bool false, .slice none 0 0, .slice none 0 0, .slice none 0 0] 97) = W := ⟨_, rfl⟩
 have hsz : (w.alloc (.cells #[.bool false, .slice ak lk ck, .slice av lv cv, .slice ac lc cc] 97)).heap.size = w.heap.size + 1 := by simp
 have hsz2 : ((w.alloc (.cells #[.bool false, .slice ak lk ck, .slice av lv cv, .slice ac lc cc] 97)).alloc (.cells #[.bool lb, .slice bk mk dk, .slice bv mv dv, .slice bc mc dc] 97)).heap.size = w.heap.size + 2 := by simp
 have hsz3 : W.heap.size = w.heap.size + 3 := by rw [← hW]; simp
 have bW : Below w.heap.size w W := by rw [← hW]; exact ((Br.alloc (Nat.le_refl _) _).alloc (by simp) _).alloc (by simp; omega) _
 have XA : Hid (W.heap[w.heap.size]? = some (.cells #[.bool false, .slice ak lk ck, .slice av lv cv, .slice ac lc cc] 97)) := Hd (by rw [← hW]; exact (hao _ _ (by simp; omega)).trans ((hao _ _ (by simp)).trans (han w _)));have XB : Hid (W.heap[w.heap.size + 1]? = some (.cells #[.bool lb, .slice bk mk dk, .slice bv mv dv, .slice bc mc dc] 97)) := Hd (by rw [← hW, ← hsz]; exact (hao _ _ (by simp)).trans (han _ _))
 have XZ : Hid (W.heap[w.heap.size + 2]? = some (.cells #[.bool false, .slice none 0 0, .slice none 0 0, .slice none 0 0] 97)) := Hd (by rw [← hW, ← hsz2]; exact han _ _);obtain ⟨w2, hw2⟩ : ∃ w2, W.alloc (.cells #[.int .u64 mid] 28) = w2 := ⟨_, rfl⟩
 have b2 : Below W.heap.size W w2 := by rw [← hw2]; exact (Below.refl _ W).alloc (Nat.le_refl _) _
 have RQ : Hid (Rd w2 (some ⟨w.heap.size + 3, 0, none⟩) [.int .u64 mid]) := Hd (by rw [← hw2, ← hsz3]; exact Rd.made W _ _);have XA2 := Hd (kept XA.out b2);have XB2 := Hd (kept XB.out b2);have XZ2 := Hd (kept XZ.out b2);have B2 := Hd (bW.trans (b2.mono bW.size));have za0 := cl XA.out 0 rfl;have za1 := cl XA.out 1 rfl;have za2 := cl XA.out 2 rfl;have za3 := cl XA.out 3 rfl;clear bW b2 hsz hsz2;go_enter Tryz.func115, Tryz.ntmps115;go_upto_region 4 with fail
 try rw [hW]
 try rw [hsz3]
 try rw [show w.heap.size + 1 + 1 = w.heap.size + 2 from rfl]
 try rw [hw2]
 clear za0 za1 za2 za3 hW hw2 hsz3 XA XB XZ;have lt0 : w.heap.size < w2.heap.size := (zl XA2.out);have lt1 : w.heap.size + 1 < w2.heap.size := (zl XB2.out);have lt2 : w.heap.size + 2 < w2.heap.size := (zl XZ2.out);have ca0 := cl XA2.out 0 rfl;have ca1 := cl XA2.out 1 rfl;have ca2 := cl XA2.out 2 rfl;have ca3 := cl XA2.out 3 rfl;have cb0 := cl XB2.out 0 rfl;have cb1 := cl XB2.out 1 rfl;have cb2 := cl XB2.out 2 rfl;have cb3 := cl XB2.out 3 rfl
 refine region_kit 22 35 [eqV (.pointer (some ⟨w.heap.size, 0, none⟩)), eqV (.bool false), eqV (.pointer (some ⟨w.heap.size, 1, none⟩)), eqV (.slice ak lk ck), eqV (.slice (some ⟨w.heap.size + 3, 0, none⟩) 1 1), eqV (.pointer (some ⟨w.heap.size + 1, 1, none⟩)), eqV (.slice bk mk dk), lstV [.slice ak lk ck, .slice (some ⟨w.heap.size + 3, 0, none⟩) 1 1, .slice bk mk dk], rdFV w2.heap.size X1, eqV (.pointer (some ⟨w.heap.size, 2, none⟩)), eqV (.slice av lv cv), eqV (.pointer (some ⟨w.heap.size + 1, 2, none⟩)), eqV (.slice bv mv dv), lstV [.slice av lv cv, .slice bv mv dv], rdFV w2.heap.size X2, eqV (.pointer (some ⟨w.heap.size, 3, none⟩)), eqV (.slice ac lc cc), eqV (.pointer (some ⟨w.heap.size + 1, 3, none⟩)), eqV (.slice bc mc dc), lstV [.slice ac lc cc, .slice bc mc dc], rdFV w2.heap.size X3, nodG w2.heap.size false X1 X2 X3, anyV] (by kernel_rfl) (by kernel_rfl) (by rfl) ?owes ?ends
 case owes =>
  refine Fo 0 (fun a wx hS xo xd K HK => ?_) ?_
  ·have d3 := Fl xo 3
   clear xo xd;go_simp;exact Hr HK
  refine Fo 1 (fun a wx hS xo xd K HK => ?_) ?_
  ·have d13 := Fq xd 0
   clear xo xd;have c0 := hC ca0 hS lt0;go_simp;exact Hr HK
  refine Fo 2 (fun a wx hS xo xd K HK => ?_) ?_
  ·have d3 := Fl xo 3
   clear xo xd;go_simp;exact Hr HK
  refine Fo 3 (fun a wx hS xo xd K HK => ?_) ?_
  ·have d15 := Fq xd 2
   clear xo xd;have c0 := hC ca1 hS lt0;go_simp;exact Hr HK
  refine Fo 4 (fun a wx hS xo xd K HK => ?_) ?_
  ·have d7 := Fl xo 7
   clear xo xd;go_simp;exact Hr HK
  refine Fo 5 (fun a wx hS xo xd K HK => ?_) ?_
  ·have d5 := Fl xo 5
   clear xo xd;go_simp;exact Hr HK
  refine Fo 6 (fun a wx hS xo xd K HK => ?_) ?_
  ·have d18 := Fq xd 5
   clear xo xd;have c0 := hC cb1 hS lt1;go_simp;exact Hr HK
  refine Fo 7 (fun a wx hS xo xd K HK => ?_) ?_
  ·have d16 := Fq xd 3
   have d17 := Fq xd 4;have d19 := Fq xd 6;clear xo xd;go_simp;exact HK.out _ _ ⟨_, rfl, Rd.made _ _ _⟩ (below_made _ _)
  refine Fo 8 (fun a wx hS xo xd K HK => ?_) ?_
  ·obtain ⟨a20, d20, r20⟩ := Fr xd 7
   clear xo xd;have CA := C1.out wx a20 (chain B2.out hS) r20 (RQ.out.below hS);clear r20;go_simp;go_wp2_with fail;refine CA.mono ?_;rintro e w9 ⟨⟨v9, rfl, h9⟩, b9⟩;exact HK.out _ _ (out_rdFV h9 hS.size) b9
  refine Fo 9 (fun a wx hS xo xd K HK => ?_) ?_
  ·have d3 := Fl xo 3
   clear xo xd;go_simp;exact Hr HK
  refine Fo 10 (fun a wx hS xo xd K HK => ?_) ?_
  ·have d22 := Fq xd 9
   clear xo xd;have c0 := hC ca2 hS lt0;go_simp;exact Hr HK
  refine Fo 11 (fun a wx hS xo xd K HK => ?_) ?_
  ·have d5 := Fl xo 5
   clear xo xd;go_simp;exact Hr HK
  refine Fo 12 (fun a wx hS xo xd K HK => ?_) ?_
  ·have d24 := Fq xd 11
   clear xo xd;have c0 := hC cb2 hS lt1;go_simp;exact Hr HK
  refine Fo 13 (fun a wx hS xo xd K HK => ?_) ?_
  ·have d23 := Fq xd 10
   have d25 := Fq xd 12;clear xo xd;go_simp;exact HK.out _ _ ⟨_, rfl, Rd.made _ _ _⟩ (below_made _ _)
  refine Fo 14 (fun a wx hS xo xd K HK => ?_) ?_
  ·obtain ⟨a26, d26, r26⟩ := Fr xd 13
   clear xo xd;have CA := C2.out wx a26 (chain B2.out hS) r26;clear r26;go_simp;go_wp2_with fail;refine CA.mono ?_;rintro e w9 ⟨⟨v9, rfl, h9⟩, b9⟩;exact HK.out _ _ (out_rdFV h9 hS.size) b9
  refine Fo 15 (fun a wx hS xo xd K HK => ?_) ?_
  ·have d3 := Fl xo 3
   clear xo xd;go_simp;exact Hr HK
  refine Fo 16 (fun a wx hS xo xd K HK => ?_) ?_
  ·have d28 := Fq xd 15
   clear xo xd;have c0 := hC ca3 hS lt0;go_simp;exact Hr HK
  refine Fo 17 (fun a wx hS xo xd K HK => ?_) ?_
  ·have d5 := Fl xo 5
   clear xo xd;go_simp;exact Hr HK
  refine Fo 18 (fun a wx hS xo xd K HK => ?_) ?_
  ·have d30 := Fq xd 17
   clear xo xd;have c0 := hC cb3 hS lt1;go_simp;exact Hr HK
  refine Fo 19 (fun a wx hS xo xd K HK => ?_) ?_
  ·have d29 := Fq xd 16
   have d31 := Fq xd 18;clear xo xd;go_simp;exact HK.out _ _ ⟨_, rfl, Rd.made _ _ _⟩ (below_made _ _)
  refine Fo 20 (fun a wx hS xo xd K HK => ?_) ?_
  ·obtain ⟨a32, d32, r32⟩ := Fr xd 19
   clear xo xd;have CA := C3.out wx a32 (chain B2.out hS) r32;clear r32;go_simp;go_wp2_with fail;refine CA.mono ?_;rintro e w9 ⟨⟨v9, rfl, h9⟩, b9⟩;exact HK.out _ _ (out_rdFV h9 hS.size) b9
  refine Fo 21 (fun a wx hS xo xd K HK => ?_) ?_
  ·have d14 := Fq xd 1
   obtain ⟨a21, c21, d21, r21, l21, m21, n21⟩ := Fr xd 8;obtain ⟨a27, c27, d27, r27, l27, m27, n27⟩ := Fr xd 14;obtain ⟨a33, c33, d33, r33, l33, m33, n33⟩ := Fr xd 20;clear xo xd;go_simp;exact HK.out _ _ ⟨_, _, _, _, _, _, rfl, r21, r27, r33, l21, m21, l27, m27, l33, m33, n21, n27, n33⟩ Br
  refine OwesAll.skip (f := 22) ?_;exact OwesAll.nil
 case ends =>
  intro a wx hS hsz hdf hold hdone;simp only [List.getElem?_toArray, List.getElem?_cons_succ, List.getElem?_cons_zero, List.getElem?_nil];have hsz' : a.tmps.size = 35 := hsz;have hdf' : a.defers = [] := hdf;have ha := act_lit hsz' hdf';have e0 := hold 0 (unset_of (by kernel_rfl));have e1 := hold 1 (unset_of (by kernel_rfl));have e2 := hold 2 (unset_of (by kernel_rfl));have e3 := hold 3 (unset_of (by kernel_rfl));have e4 := hold 4 (unset_of (by kernel_rfl));have e5 := hold 5 (unset_of (by kernel_rfl));have e6 := hold 6 (unset_of (by kernel_rfl));have e7 := hold 7 (unset_of (by kernel_rfl))
  have e8 := hold 8 (unset_of (by kernel_rfl));have e9 := hold 9 (unset_of (by kernel_rfl));have e10 := hold 10 (unset_of (by kernel_rfl));have e11 := hold 11 (unset_of (by kernel_rfl));have e12 := hold 12 (unset_of (by kernel_rfl));obtain ⟨xa, xb, xc, ja, jb, jc, d34, q1, q2, q3, q4, q5, q6, q7, q8, q9, p1, p2, p3⟩ := hdone 21 _ 34 rfl (by decide) rfl;clear hold hdone hsz hdf hsz' hdf';simp only [Array.getD_eq_getD_getElem?, List.getElem?_toArray, List.getElem?_cons_succ, List.getElem?_cons_zero, Option.getD_some] at e0 e1 e2 e3 e4 e5 e6 e7 e8 e9 e10 e11 e12 d34
  simp only [show (List.range 35) = [0, 1, 2, 3, 4, 5, 6, 7, 8, 9, 10, 11, 12, 13, 14, 15, 16, 17, 18, 19, 20, 21, 22, 23, 24, 25, 26, 27, 28, 29, 30, 31, 32, 33, 34] from rfl, List.map_cons, List.map_nil] at ha;simp only [e0, e1, e2, e3, e4, e5, e6, e7, e8, e9, e10, e11, e12, d34] at ha;clear e0 e1 e2 e3 e4 e5 e6 e7 e8 e9 e10 e11 e12 d34;generalize a.tmps[13]?.getD undef = u13 at ha;generalize a.tmps[14]?.getD undef = u14 at ha;generalize a.tmps[15]?.getD undef = u15 at ha;generalize a.tmps[16]?.getD undef = u16 at ha;generalize a.tmps[17]?.getD undef = u17 at ha
  generalize a.tmps[18]?.getD undef = u18 at ha;generalize a.tmps[19]?.getD undef = u19 at ha;generalize a.tmps[20]?.getD undef = u20 at ha;generalize a.tmps[21]?.getD undef = u21 at ha;generalize a.tmps[22]?.getD undef = u22 at ha;generalize a.tmps[23]?.getD undef = u23 at ha;generalize a.tmps[24]?.getD undef = u24 at ha;generalize a.tmps[25]?.getD undef = u25 at ha;generalize a.tmps[26]?.getD undef = u26 at ha;generalize a.tmps[27]?.getD undef = u27 at ha;generalize a.tmps[28]?.getD undef = u28 at ha;generalize a.tmps[29]?.getD undef = u29 at ha;generalize a.tmps[30]?.getD undef = u30 at ha
  generalize a.tmps[31]?.getD undef = u31 at ha;generalize a.tmps[32]?.getD undef = u32 at ha;generalize a.tmps[33]?.getD undef = u33 at ha;subst ha;intro K hK;have HK := Hd hK;clear hK;have YZ := kept XZ2.out hS;have y0 := cl YZ 0 rfl;have y1 := cl YZ 1 rfl;have y2 := cl YZ 2 rfl;have y3 := cl YZ 3 rfl;have f0 := ufb YZ 0;have f1 := ufb YZ 1;have f2 := ufb YZ 2;have f3 := ufb YZ 3;have Y := Hd (cells4 (put4_block YZ (.bool false) (.slice xa X1.length ja) (.slice xb X2.length jb) (.slice xc X3.length jc)))
  have f4 : Frm (fun k => k = w.heap.size + 2) wx (put4 wx (w.heap.size + 2) (.bool false) (.slice xa X1.length ja) (.slice xb X2.length jb) (.slice xc X3.length jc)) := put4_frm (Frm.refl _ wx) _ _ _ _ _ (.inl rfl);have nb : ∀ (xo : Option Addr), (∀ x, xo = some x → w2.heap.size ≤ x.block) → ∀ x, xo = some x → ¬ x.block = w.heap.size + 2 := fun xo h x hx e => by have := h x hx; omega
  have FIN : Hid (TOut w.heap.size false X1 X2 X3 (.returned (.agg #[.bool false, .slice xa X1.length ja, .slice xb X2.length jb, .slice xc X3.length jc])) (put4 wx (w.heap.size + 2) (.bool false) (.slice xa X1.length ja) (.slice xb X2.length jb) (.slice xc X3.length jc)) ∧ Below w.heap.size w (put4 wx (w.heap.size + 2) (.bool false) (.slice xa X1.length ja) (.slice xb X2.length jb) (.slice xc X3.length jc))) := Hd ⟨⟨xa, xb, xc, ja, jb, jc, rfl, q1.frm f4 (fun x hx _ => nb _ p1 x hx), q2.frm f4 (fun x hx _ => nb _ p2 x hx), q3.frm f4 (fun x hx _ => nb _ p3 x hx), q4, q5, q6, q7, q8, q9, fun x hx => by have := p1 x hx; omega, fun x hx => by have := p2 x hx; omega, fun x hx => by have := p3 x hx; omega⟩, put4_below (chain B2.out hS) _ _ _ _ _ (by omega)⟩
  unfold put4 at Y FIN;clear q1 q2 q3 q4 q5 q6 q7 q8 q9 p1 p2 p3 nb f4 YZ ca0 ca1 ca2 ca3 cb0 cb1 cb2 cb3 C1 C2 C3 XA2 XB2 XZ2 B2 hS;rw [if_pos (by rfl)];go_simp;refine HK.out _ _ ?_;clear y0 y1 y2 y3 f0 f1 f2 f3 HK K;go_wp2_with fail;exact bodyPost_ret (v := .agg #[.bool false, .slice xa X1.length ja, .slice xb X2.length jb, .slice xc X3.length jc]) (by simp [results, Tryz.results115, go_sem, Y.out.1, Y.out.2.1, Y.out.2.2.1, Y.out.2.2.2]) rfl FIN.out
theorem both_ok {a b : Nod} {mid : Int} (ha : NodOk a) (hb : NodOk b) (hm : 0 ≤ mid ∧ mid ≤ 18446744073709551615) (h1 : a.K.length + b.K.length ≤ 900) (h2 : a.V.length + b.V.length ≤ 900) (h3 : a.C.length + b.C.length ≤ 900) : NodOk (bothN a mid b) := by
 refine ⟨?_, by simp [bothN]; omega, by simp [bothN]; omega, fun x hx => ?_, fun x hx => ?_, fun x hx => ?_⟩
 ·unfold bothN
  dsimp only
  split <;> simp <;> omega
 ·unfold bothN at hx
  dsimp only at hx
  simp only [List.mem_append] at hx
  rcases hx with (hx | hx) | hx
  ·exact ha.kb x hx
  ·split at hx
   ·cases hx
   ·rw [List.mem_singleton] at hx; subst hx; exact hm
  ·exact hb.kb x hx
 ·exact (List.mem_append.1 hx).elim (ha.vb x) (hb.vb x)
 ·exact (List.mem_append.1 hx).elim (ha.cb x) (hb.cb x)
theorem together_is (a b : Nod) (ak av ac bk bv bc : Option Addr) (ck cv cc dk dv dc : Nat) (w : World) (hA : NodR w a ak av ac ck cv cc) (hB : NodR w b bk bv bc dk dv dc) (mid : Int) (hm : 0 ≤ mid ∧ mid ≤ 18446744073709551615) (h1 : a.K.length + b.K.length ≤ 900) (h2 : a.V.length + b.V.length ≤ 900) (h3 : a.C.length + b.C.length ≤ 900) :
  Calls Tryz.prog 115 #[nodV a ak av ac ck cv cc, .int .u64 mid, nodV b bk bv bc dk dv dc] w fun e w' => NodBack w.heap.size (bothN a mid b) e w' ∧ Below w.heap.size w w' := by
 have hok := both_ok hA.ok hB.ok hm h1 h2 h3
 have C2 : Hid (∀ wx al, Below w.heap.size w wx → Rd wx al [.slice av a.V.length cv, .slice bv b.V.length dv] → Calls Tryz.prog 113 #[.slice al 2 2] wx fun e w' => RowOut wx.heap.size 9 ((bothN a mid b).V.map Value.string) e w' ∧ Below wx.heap.size wx w') := Hd (fun wx al hb hr => by
  have := concat_S al 2 [⟨av, a.V.map Value.string, cv⟩, ⟨bv, b.V.map Value.string, dv⟩] wx (by simpa [Src.val] using hr) (fun s hs => by
   simp only [List.mem_cons, List.not_mem_nil, or_false] at hs
   rcases hs with rfl | rfl
   ·exact hA.v.below hb
   ·exact hB.v.below hb) (fun s hs => by
   simp only [List.mem_cons, List.not_mem_nil, or_false] at hs
   rcases hs with rfl | rfl <;> exact one_S _) (by simp [flatS]; omega) (by simp)
  have e : flatS [⟨av, a.V.map Value.string, cv⟩, ⟨bv, b.V.map Value.string, dv⟩] = (bothN a mid b).V.map Value.string := by simp [flatS, bothN]
  rw [e] at this;exact this)
 have C3 : Hid (∀ wx al, Below w.heap.size w wx → Rd wx al [.slice ac a.C.length cc, .slice bc b.C.length dc] → Calls Tryz.prog 133 #[.slice al 2 2] wx fun e w' => RowOut wx.heap.size 3 ((bothN a mid b).C.map ikid) e w' ∧ Below wx.heap.size wx w') := Hd (fun wx al hb hr => by
  have := concat_I al 2 [⟨ac, a.C.map ikid, cc⟩, ⟨bc, b.C.map ikid, dc⟩] wx (by simpa [Src.val] using hr) (fun s hs => by
   simp only [List.mem_cons, List.not_mem_nil, or_false] at hs
   rcases hs with rfl | rfl
   ·exact hA.c.below hb
   ·exact hB.c.below hb) (fun s hs => by
   simp only [List.mem_cons, List.not_mem_nil, or_false] at hs
   rcases hs with rfl | rfl <;> exact one_I _) (by simp [flatS]; omega) (by simp)
  have e : flatS [⟨ac, a.C.map ikid, cc⟩, ⟨bc, b.C.map ikid, dc⟩] = (bothN a mid b).C.map ikid := by simp [flatS, bothN]
  rw [e] at this;exact this)
 have FIN : ∀ e w', TOut w.heap.size a.leaf ((bothN a mid b).K.map ukey) ((bothN a mid b).V.map Value.string) ((bothN a mid b).C.map ikid) e w' ∧ Below w.heap.size w w' → NodBack w.heap.size (bothN a mid b) e w' ∧ Below w.heap.size w w' := by
  rintro e w' ⟨⟨xa, xb, xc, ja, jb, jc, rfl, q1, q2, q3, q4, q5, q6, q7, q8, q9, p1, p2, p3⟩, hb⟩;refine ⟨⟨xa, xb, xc, ja, jb, jc, ?_, ⟨q1, q2, q3, by simpa using q4, q5, by simpa using q6, q7, by simpa using q8, q9, hok⟩, p1, p2, p3⟩, hb⟩;unfold nodV;simp only [List.length_map]
  rfl
 cases hl : a.leaf with
 | true =>
  have C1 : Hid (∀ wx al, Below w.heap.size w wx → Rd wx al [.slice ak a.K.length ck, .slice none 0 0, .slice bk b.K.length dk] → Calls Tryz.prog 112 #[.slice al 3 3] wx fun e w' => RowOut wx.heap.size 28 ((bothN a mid b).K.map ukey) e w' ∧ Below wx.heap.size wx w') := Hd (fun wx al hb hr => by
   have := concat_U al 3 [⟨ak, a.K.map ukey, ck⟩, ⟨none, [], 0⟩, ⟨bk, b.K.map ukey, dk⟩] wx (by simpa [Src.val] using hr) (fun s hs => by
    simp only [List.mem_cons, List.not_mem_nil, or_false] at hs
    rcases hs with rfl | rfl | rfl
    ·exact hA.k.below hb
    ·exact .inl rfl
    ·exact hB.k.below hb) (fun s hs => by
    simp only [List.mem_cons, List.not_mem_nil, or_false] at hs
    rcases hs with rfl | rfl | rfl
    ·exact one_U _
    ·exact fun u hu => (by cases hu)
    ·exact one_U _) (by simp [flatS]; omega) (by simp)
   have e : flatS [⟨ak, a.K.map ukey, ck⟩, ⟨none, [], 0⟩, ⟨bk, b.K.map ukey, dk⟩] = (bothN a mid b).K.map ukey := by simp [flatS, bothN, hl]
   rw [e] at this;exact this)
  rw [hl] at FIN;unfold nodV;rw [hl];exact (together_leaf ak av ac bk bv bc ck cv cc dk dv dc _ _ _ _ _ _ b.leaf mid _ _ _ w C1 C2 C3).mono FIN
 | false =>
  have C1 : Hid (∀ wx al, Below w.heap.size w wx → Rd wx al [.slice ak a.K.length ck, .slice (some ⟨w.heap.size + 3, 0, none⟩) 1 1, .slice bk b.K.length dk] → Rd wx (some ⟨w.heap.size + 3, 0, none⟩) [.int .u64 mid] → Calls Tryz.prog 112 #[.slice al 3 3] wx fun e w' => RowOut wx.heap.size 28 ((bothN a mid b).K.map ukey) e w' ∧ Below wx.heap.size wx w') := Hd (fun wx al hb hr hq => by
   have := concat_U al 3 [⟨ak, a.K.map ukey, ck⟩, ⟨some ⟨w.heap.size + 3, 0, none⟩, [.int .u64 mid], 1⟩, ⟨bk, b.K.map ukey, dk⟩] wx (by simpa [Src.val] using hr) (fun s hs => by
    simp only [List.mem_cons, List.not_mem_nil, or_false] at hs
    rcases hs with rfl | rfl | rfl
    ·exact hA.k.below hb
    ·exact hq
    ·exact hB.k.below hb) (fun s hs => by
    simp only [List.mem_cons, List.not_mem_nil, or_false] at hs
    rcases hs with rfl | rfl | rfl
    ·exact one_U _
    ·exact fun u hu => (by rw [List.mem_singleton] at hu; subst hu; rfl)
    ·exact one_U _) (by simp [flatS]; omega) (by simp)
   have e : flatS [⟨ak, a.K.map ukey, ck⟩, ⟨some ⟨w.heap.size + 3, 0, none⟩, [.int .u64 mid], 1⟩, ⟨bk, b.K.map ukey, dk⟩] = (bothN a mid b).K.map ukey := by simp [flatS, bothN, hl, ukey]
   rw [e] at this;exact this)
  rw [hl] at FIN;unfold nodV;rw [hl];exact (together_branch ak av ac bk bv bc ck cv cc dk dv dc _ _ _ _ _ _ b.leaf mid _ _ _ w C1 C2 C3).mono FIN
theorem parts_T {R : Int → Option Nod} {h : Nat} {N : Nod} {F X Y : List Mk} {P : List Int} (h2 : NodT R h N F P) (h3 : SortM (X ++ F ++ Y)) (hb : NB N 320) (hl : leastN N.leaf ≤ N.K.length) : rightN (aheadN N (cutN N)) = true ∧ rightN (behindN N (cutN N)) = true := by
 have hw := whole_of h2;obtain ⟨mid, FA, FB, PA, PB, s1, s2, s3, s4, s5, s6, s7, s8⟩ := split_T h2 hl;obtain ⟨z1, z2⟩ := cut_sizes N hw hb.1 hl hb.2.2;have hs := (SortM_append.1 (SortM_append.1 (s8 X Y h3)).1).2.1;obtain ⟨t1, t2, _⟩ := SortM_append.1 hs;have t2' := (SortM_cons.1 t2).2;refine ⟨right_of s2 t1 (fun v hv => ?_) (fun c hc => ?_) s4 z1, right_of s3 t2' (fun v hv => ?_) (fun c hc => ?_) s5 z2⟩
 ·refine hb.1 v ?_
  unfold aheadN at hv
  split at hv
  ·exact List.mem_of_mem_take hv
  ·cases hv
 ·refine hb.2.1 c ?_
  unfold aheadN at hc
  split at hc
  ·cases hc
  ·exact List.mem_of_mem_take hc
 ·refine hb.1 v ?_
  unfold behindN at hv
  split at hv
  ·exact List.mem_of_mem_drop hv
  ·cases hv
 ·refine hb.2.1 c ?_
  unfold behindN at hc
  split at hc
  ·cases hc
  ·exact List.mem_of_mem_drop hc
section
variable {dk : DkS} {st : ShS} {fs : List Frame} {h : Nat} {pg k pl pr : Int} {KA KB : List Int} {A B : List Kid} {NL NR : Nod} {E : List Ent}
theorem PairI.parts (hp : PairI dk st fs h pg KA k KB A B pl NL pr NR E) (hb : NB (bothN NL k NR) 320) (hl : leastN (bothN NL k NR).leaf ≤ (bothN NL k NR).K.length) : rightN (aheadN (bothN NL k NR) (cutN (bothN NL k NR))) = true ∧ rightN (behindN (bothN NL k NR) (cutN (bothN NL k NR))) = true := by
 obtain ⟨FL, FR, PC, F1, P1, F2, P2, c1, c2, c3, c4, c5, h1, h2, h3, h4, h5⟩ := hp;obtain ⟨F, t1, t2, t3⟩ := both_T h1 h2 k;exact parts_T t1 (t3 (FL ++ interL KA A) (interR KB B ++ FR) (by simpa using h3)) hb hl
theorem both_ne (hk : NL.K ≠ [] ∨ NR.K ≠ []) : (bothN NL k NR).K ≠ [] := by
 unfold bothN;intro e;have := congrArg List.length e;simp only [List.length_append, List.length_nil] at this
 rcases hk with hk | hk
 ·have := List.length_pos_iff.2 hk; omega
 ·have := List.length_pos_iff.2 hk; omega
theorem PairI.right (hp : PairI dk st fs h pg KA k KB A B pl NL pr NR E) (hb : NB (bothN NL k NR) 240) (hk : NL.K ≠ [] ∨ NR.K ≠ []) : rightN (bothN NL k NR) = true := by
 obtain ⟨FL, FR, PC, F1, P1, F2, P2, c1, c2, c3, c4, c5, h1, h2, h3, h4, h5⟩ := hp;obtain ⟨F, t1, t2, t3⟩ := both_T h1 h2 k;have hs := t3 (FL ++ interL KA A) (interR KB B ++ FR) (by simpa using h3);exact right_of t1 (SortM_append.1 (SortM_append.1 hs).1).2.1 hb.1 hb.2.1 (both_ne hk) hb.2.2
theorem PairI.nb (hp : PairI dk st fs h pg KA k KB A B pl NL pr NR E) (h1 : NB NL 240) (h2 : NB NR 240) (hz : sizeN NL < 80 ∨ sizeN NR < 80) : NB (bothN NL k NR) 320 ∧ NL.K.length ≤ 100 ∧ NR.K.length ≤ 100 ∧ NL.V.length ≤ 100 ∧ NR.V.length ≤ 100 ∧ NL.C.length ≤ 101 ∧ NR.C.length ≤ 101 := by
 obtain ⟨b1, b2, b3, b4, _⟩ := hp.both;have z1 := h1.2.2;have z2 := h2.2.2
 have hV : ∀ v ∈ (bothN NL k NR).V, v.size ≤ 40 := by
  intro v hv;unfold bothN at hv
  rcases List.mem_append.1 hv with hv | hv
  ·exact h1.1 v hv
  ·exact h2.1 v hv
 have hC : ∀ c ∈ (bothN NL k NR).C, 2 ≤ c ∧ c < 640 := by
  intro v hv;unfold bothN at hv
  rcases List.mem_append.1 hv with hv | hv
  ·exact h1.2.1 v hv
  ·exact h2.2.1 v hv
 by_cases h0 : h = 0
 ·have l1 : NL.leaf = true := by rw [b1]; exact decide_eq_true h0
  have l2 : NR.leaf = true := by rw [b2]; exact decide_eq_true h0
  have w1 := (wholeB_leaf l1).1 b3;have w2 := (wholeB_leaf l2).1 b4;unfold sizeN at z1 z2 hz;rw [l1] at z1 hz;rw [l2] at z2 hz;simp only [if_true] at z1 z2 hz
  have e1 : sizeN (bothN NL k NR) = 1 + 9 * (NL.K.length + NR.K.length) + (bytesV NL.V + bytesV NR.V) := by
   unfold sizeN bothN;simp only [l1, if_true, List.append_nil, List.length_append];rw [bytesV_append]
  refine ⟨⟨hV, hC, ?_⟩, ?_⟩
  ·rw [e1]; omega
  ·have := w1.1; have := w1.2; have := w2.1; have := w2.2
   refine ⟨by omega, by omega, by omega, by omega, by omega, by omega⟩
 ·have l1 : NL.leaf = false := by rw [b1]; exact decide_eq_false h0
  have l2 : NR.leaf = false := by rw [b2]; exact decide_eq_false h0
  have w1 := (wholeB_branch l1).1 b3;have w2 := (wholeB_branch l2).1 b4;unfold sizeN at z1 z2 hz;rw [l1] at z1 hz;rw [l2] at z2 hz;simp only [Bool.false_eq_true, if_false] at z1 z2 hz
  have e1 : sizeN (bothN NL k NR) = 1 + 8 * (NL.K.length + 1 + NR.K.length) + 2 * (NL.C.length + NR.C.length) := by
   unfold sizeN bothN;simp [l1];omega
  refine ⟨⟨hV, hC, ?_⟩, ?_⟩
  ·rw [e1]; have := w1.1; have := w2.1; omega
  ·have := w1.1; have := w1.2; have := w2.1; have := w2.2
   refine ⟨by omega, by omega, by omega, by omega, by omega, by omega⟩
theorem PairI.heads (hp : PairI dk st fs h pg KA k KB A B pl NL pr NR E) (g : Good dk st) : (2 ≤ pl ∧ pl < 640) ∧ (2 ≤ pr ∧ pr < 640) ∧ A.length = KA.length ∧ B.length = KB.length := by
 obtain ⟨FL, FR, PC, F1, P1, F2, P2, c1, c2, c3, c4, c5, h1, h2, h3, h4, h5⟩ := hp;exact ⟨h5.rng g (by simp), h5.rng g (by simp), c2, c3⟩
theorem PairI.then {dk1 : DkS} {st1 : ShS} {q : Int} {N : Nod} (hp : PairI dk st fs h pg KA k KB A B pl NL pr NR E) (hl : Laid dk st pl N dk1 st1 q) : Live st1 pr := by
 obtain ⟨FL, FR, PC, F1, P1, F2, P2, c1, c2, c3, c4, c5, h1, h2, h3, h4, h5⟩ := hp;exact ((hl.lv _ h5).1.2 pr).1 (by simp)
end
def setKey (M : Nod) (i : Nat) (v : Int) : Nod := { leaf := M.leaf, K := M.K.set i v, V := M.V, C := M.C }
theorem key_set {w : World} {M : Nod} {av ac : Option Addr} {b off ck cv cc i : Nat} {Z : Nat → Prop} (h : RowsA w M (some ⟨b, off, none⟩) av ac ck cv cc Z) (hv : M.V = []) (hi : i < M.K.length) (v : Int) (hvb : 0 ≤ v ∧ v ≤ 18446744073709551615) :
  RowsA (w.setCell ⟨b, off + i, none⟩ (.int .u64 v)) (setKey M i v) (some ⟨b, off, none⟩) av ac ck cv cc Z := by
 have hc := h.r.k;obtain ⟨b', off', e1, e2, e3⟩ := hc.at i (by simpa using hi);injection e1 with e1;injection e1 with e1 e4;subst e1 e4;refine ⟨⟨?_, by show Rd _ _ (M.V.map _); rw [hv]; exact .inl rfl, h.r.c.setOther b (off + i) _ _ e3 (fun u hu => ?_), by show (M.K.set i v).length ≤ _; rw [List.length_set]; exact h.r.k2, h.r.k3, h.r.v2, h.r.v3, h.r.c2, h.r.c3, ?_⟩, fun x hx hL => h.zk x hx (fun e => hL (by show M.K.set i v = []; rw [e]; rfl)), h.zv, h.zc⟩
 ·show Rd _ _ ((M.K.set i v).map ukey)
  rw [List.map_set];exact hc.setSame i (by simpa using hi) _
 ·obtain ⟨k, _, rfl⟩ := List.mem_map.1 hu
  rw [List.getElem_map];intro e; cases e
 ·have ho := h.r.ok
  refine ⟨by show (M.K.set i v).length ≤ _; rw [List.length_set]; exact ho.k1, ho.v1, ho.c1, fun c hc => ?_, ho.vb, ho.cb⟩
  rcases List.mem_or_eq_of_mem_set hc with hc | rfl
  ·exact ho.kb c hc
  ·exact hvb
theorem share_ready {w5 : World} {x : StepV} {U : Nod} {Z : Nat → Prop} {i : Nat} {q1 q2 mid : Int} (hA : StepA w5 x U Z) (hV : U.V = []) (hi : i + 1 < U.C.length) (hk : i < U.K.length) (b1 : 2 ≤ q1 ∧ q1 < 640) (b2 : 2 ≤ q2 ∧ q2 < 640) (b3 : 0 ≤ mid ∧ mid ≤ 18446744073709551615) :
  ∃ (cb off kb ko : Nat), x.ac = some ⟨cb, off, none⟩ ∧ x.ak = some ⟨kb, ko, none⟩ ∧ ¬ Z cb ∧ ¬ Z kb ∧ cb < w5.heap.size ∧ kb < w5.heap.size ∧ (∃ c, w5.cell? ⟨cb, off + i, none⟩ = some (.int .i64 c)) ∧ w5.frozen? ⟨cb, off + i, none⟩ = false ∧
   ∀ w6, w5.setCell ⟨cb, off + i, none⟩ (.int .i64 q1) = w6 → (∃ c, w6.cell? ⟨cb, off + (i + 1), none⟩ = some (.int .i64 c)) ∧ w6.frozen? ⟨cb, off + (i + 1), none⟩ = false ∧ Frm (fun y => y = cb ∨ y = kb) w5 w6 ∧
    ∀ w7, w6.setCell ⟨cb, off + (i + 1), none⟩ (.int .i64 q2) = w7 → (∃ c, w7.cell? ⟨kb, ko + i, none⟩ = some (.int .u64 c)) ∧ w7.frozen? ⟨kb, ko + i, none⟩ = false ∧ Frm (fun y => y = cb ∨ y = kb) w5 w7 ∧
     ∀ w8, w7.setCell ⟨kb, ko + i, none⟩ (.int .u64 mid) = w8 → RowsA w8 (setKey (setKid (setKid U i q1) (i + 1) q2) i mid) x.ak x.av x.ac x.ck x.cv x.cc Z ∧ Frm (fun y => y = cb ∨ y = kb) w5 w8 := by
 obtain ⟨cb, off, e1, e2, e3⟩ := hA.a.r.c.at i (by simp; omega);obtain ⟨kb, ko, f1, f2, f3⟩ := hA.a.r.k.at i (by simpa using hk);have uc := hA.uc _ e1;have uk := hA.uk _ f1;have r5 := hA.a;rw [e1, f1] at r5;refine ⟨cb, off, kb, ko, e1, f1, hA.zc _ e1, hA.zk _ f1, e2, f2, ⟨_, by rw [e3, List.getElem_map]; rfl⟩, uc.2 _, fun w6 h6 => ?_⟩;have F6 : Frm (fun y => y = cb ∨ y = kb) w5 w6 := by rw [← h6]; exact (Frm.refl _ w5).setCell _ _ (.inl (.inl rfl))
 have r6 : RowsA w6 (setKid U i q1) (some ⟨kb, ko, none⟩) x.av (some ⟨cb, off, none⟩) x.ck x.cv x.cc Z := by rw [← h6]; exact row_set r5 hV (by omega) q1 (by omega)
 have l6 : i + 1 < (setKid U i q1).C.length := by unfold setKid; simp; exact hi
 have c6 : ∃ c, w6.cell? ⟨cb, off + (i + 1), none⟩ = some (.int .i64 c) := by
  obtain ⟨cb', off', g1, g2, g3⟩ := r6.r.c.at (i + 1) (by simpa using l6);injection g1 with g1;injection g1 with g1 g4;subst g1 g4;exact ⟨_, by rw [g3, List.getElem_map]; rfl⟩
 refine ⟨c6, by rw [← h6, World.frozen?_setCell]; exact uc.2 _, F6, fun w7 h7 => ?_⟩;have F7 : Frm (fun y => y = cb ∨ y = kb) w5 w7 := by rw [← h7]; exact F6.setCell _ _ (.inl (.inl rfl))
 have r7 : RowsA w7 (setKid (setKid U i q1) (i + 1) q2) (some ⟨kb, ko, none⟩) x.av (some ⟨cb, off, none⟩) x.ck x.cv x.cc Z := by rw [← h7]; exact row_set r6 hV l6 q2 (by omega)
 have c7 : ∃ c, w7.cell? ⟨kb, ko + i, none⟩ = some (.int .u64 c) := by
  obtain ⟨kb', ko', g1, g2, g3⟩ := r7.r.k.at i (by rw [List.length_map]; exact hk);injection g1 with g1;injection g1 with g1 g4;subst g1 g4;exact ⟨_, by rw [g3, List.getElem_map]; rfl⟩
 refine ⟨c7, by rw [← h7, World.frozen?_setCell, ← h6, World.frozen?_setCell]; exact uk.2 _, F7, fun w8 h8 => ?_⟩;refine ⟨?_, by rw [← h8]; exact F7.setCell _ _ (.inl (.inr rfl))⟩;rw [e1, f1, ← h8];exact key_set r7 hV hk mid b3
structure UpS (U : Nod) (KA : List Int) (k : Int) (KB : List Int) (A : List Kid) (c1 c2 : Int) (B : List Kid) : Prop where
 lf : U.leaf = false
 v : U.V = []
 k : U.K = KA ++ [k] ++ KB
 c : U.C = kP A ++ [c1, c2] ++ kP B
 a : A.length = KA.length
 b : B.length = KB.length
theorem UpS.shared {U : Nod} {KA KB : List Int} {k c1 c2 : Int} {A B : List Kid} (h : UpS U KA k KB A c1 c2 B) (q1 q2 mid : Int) : setKey (setKid (setKid U KA.length q1) (KA.length + 1) q2) KA.length mid = { leaf := false, K := KA ++ [mid] ++ KB, V := [], C := kP A ++ [q1, q2] ++ kP B } := by
 unfold setKey setKid;rw [h.lf, h.v, h.k, h.c];have la : (kP A).length = KA.length := by rw [kP_length, h.a]
 simp only [Nod.mk.injEq, true_and];constructor
 ·rw [List.append_assoc, List.append_assoc, List.set_append_right _ _ (Nat.le_refl _), Nat.sub_self]; rfl
 ·rw [List.append_assoc, List.append_assoc, List.set_append_right _ _ (by omega), la, Nat.sub_self, List.set_append_right _ _ (by omega), la]
  rw [show KA.length + 1 - KA.length = 1 by omega]
  rfl
theorem UpS.sizes {U : Nod} {KA KB : List Int} {k c1 c2 : Int} {A B : List Kid} (h : UpS U KA k KB A c1 c2 B) : KA.length + 1 < U.C.length ∧ KA.length < U.K.length := by
 rw [h.k, h.c];simp only [List.length_append, List.length_cons, List.length_nil, kP_length, h.a]; omega
theorem UpS.nb {U : Nod} {KA KB : List Int} {k c1 c2 : Int} {A B : List Kid} (h : UpS U KA k KB A c1 c2 B) (hn : NB U 240) (q1 q2 mid : Int) (b1 : 2 ≤ q1 ∧ q1 < 640) (b2 : 2 ≤ q2 ∧ q2 < 640) : NB { leaf := false, K := KA ++ [mid] ++ KB, V := [], C := kP A ++ [q1, q2] ++ kP B } 240 := by
 have h1 := hn.2.1;have h2 := hn.2.2;unfold sizeN at h2;rw [h.lf, h.k, h.c] at h2;rw [h.c] at h1;refine ⟨fun v hv => (by cases hv), fun c hc => ?_, ?_⟩
 ·simp only [List.mem_append, List.mem_cons, List.not_mem_nil, or_false] at hc
  rcases hc with (hc | hc | hc) | hc
  ·exact h1 c (by simp [hc])
  ·exact hc ▸ b1
  ·exact hc ▸ b2
  ·exact h1 c (by simp [hc])
 ·unfold sizeN
  simp only [Bool.false_eq_true, if_false, List.length_append, List.length_cons, List.length_nil] at h2 ⊢;omega
theorem UpS.nb1 {U : Nod} {KA KB : List Int} {k c1 c2 : Int} {A B : List Kid} (h : UpS U KA k KB A c1 c2 B) (hn : NB U 240) (q : Int) (b1 : 2 ≤ q ∧ q < 640) : NB { leaf := false, K := KA ++ KB, V := [], C := kP A ++ [q] ++ kP B } 240 := by
 have h1 := hn.2.1;have h2 := hn.2.2;unfold sizeN at h2;rw [h.lf, h.k, h.c] at h2;rw [h.c] at h1;refine ⟨fun v hv => (by cases hv), fun c hc => ?_, ?_⟩
 ·simp only [List.mem_append, List.mem_cons, List.not_mem_nil, or_false] at hc
  rcases hc with (hc | hc) | hc
  ·exact h1 c (by simp [hc])
  ·exact hc ▸ b1
  ·exact h1 c (by simp [hc])
 ·unfold sizeN
  simp only [Bool.false_eq_true, if_false, List.length_append, List.length_cons, List.length_nil] at h2 ⊢;omega
def XB (x : StepV) (k : Nat) : Prop := (∃ y, x.ak = some y ∧ y.block = k) ∨ ∃ y, x.ac = some y ∧ y.block = k
structure ShrS (w : World) (d s g : Nat) (dk : DkS) (st : ShS) (F : Nat → Prop) (x : StepV) (p : Int) (fs : List Frame) (h : Nat) (E : List Ent) (m : Nat) (w' : World) (N : Nod) (bk bv bc : Option Addr) (jk jv jc : Nat) (dk' : DkS) (st' : ShS) (r' : Nat) (F' : Nat → Prop) : Prop where
 ts : TS w' d s g dk' st' r' F'
 fr : Frm (fun k => F k ∨ XB x k) w w'
 fn : ∀ k, F' k → F k ∨ w.heap.size ≤ k
 rows : RowsA w' N bk bv bc jk jv jc F'
 nv : N.V = []
 ka : ∀ y, bk = some y → XB x y.block ∨ w.heap.size ≤ y.block
 kc : ∀ y, bc = some y → XB x y.block ∨ w.heap.size ≤ y.block
 at_ : AtI dk' st' fs h p N E
 nb : NB N 240
 tt : To dk st dk' st'
 rm : ∀ k, Room dk st (k + m) → Room dk' st' k
def ShrOut (w : World) (d s g : Nat) (dk : DkS) (st : ShS) (F : Nat → Prop) (x : StepV) (p : Int) (fs : List Frame) (h : Nat) (E : List Ent) (m : Nat) (rr : Nat → Prop) (e : Ending) (w' : World) : Prop :=
 ∃ i fd N bk bv bc jk jv jc dk' st' r' F', e = .returned (.tuple #[.agg #[.int .i64 p, .int .i64 i, .bool fd, .bool N.leaf, .slice bk N.K.length jk, .slice bv N.V.length jv, .slice bc N.C.length jc], .int .i64 0]) ∧ rr r' ∧ ShrS w d s g dk st F x p fs h E m w' N bk bv bc jk jv jc dk' st' r' F'
theorem RowsA.frm2 {w w' : World} {n : Nod} {ak av ac : Option Addr} {ck cv cc : Nat} {Z G : Nat → Prop} (h : RowsA w n ak av ac ck cv cc Z) (hf : Frm G w w') (hv : n.V = []) (hk : ∀ y, ak = some y → ¬ G y.block) (hc : ∀ y, ac = some y → ¬ G y.block) : RowsA w' n ak av ac ck cv cc Z :=
 { h with r := { h.r with
   k := h.r.k.frm hf fun y hy _ => hk y hy
   v := by rw [hv]; exact .inl rfl
   c := h.r.c.frm hf fun y hy _ => hc y hy } }
theorem ShrS.boxed {w wg w5 we : World} {d s g : Nat} {dk dk' : DkS} {st st' : ShS} {F F' : Nat → Prop} {x : StepV} {p : Int} {fs : List Frame} {h m r' b : Nat} {E : List Ent} {N : Nod} {bk bv bc : Option Addr} {jk jv jc : Nat}
  (hs : ShrS wg d s g dk st F x p fs h E m w5 N bk bv bc jk jv jc dk' st' r' F') (hb : Below w.heap.size w wg) (h0 : w.heap.size ≤ b) (h1 : b < wg.heap.size) (hX : ∀ k, XB x k → k < w.heap.size) (hF : ∀ k, F k → k < w.heap.size) (hf : Frm (fun k => k = b) w5 we) : ShrS w d s g dk st F x p fs h E m we N bk bv bc jk jv jc dk' st' r' F' := by
 have nb : ¬ F' b := fun hx => by
  rcases hs.fn _ hx with h2 | h2
  ·have := hF _ h2; omega
  ·omega
 have nk : ∀ y : Addr, (XB x y.block ∨ wg.heap.size ≤ y.block) → ¬ y.block = b := fun y hy e => by
  rcases hy with h2 | h2
  ·have := hX _ h2; omega
  ·omega
 exact { hs with
  ts := hs.ts.frm hf (fun k hk e => nb (e ▸ hk))
  fr := ((Frm.of_below hb : Frm (fun k => F k ∨ XB x k) w wg).trans hs.fr (fun k hk => .inl hk)).trans hf (fun k hk => .inr (by subst hk; exact h0))
  fn := fun k hk => (hs.fn k hk).imp id (fun h2 => Nat.le_trans hb.size h2)
  rows := hs.rows.frm2 hf hs.nv (fun y hy => nk y (hs.ka y hy)) (fun y hy => nk y (hs.kc y hy))
  ka := fun y hy => (hs.ka y hy).imp id (fun h2 => Nat.le_trans hb.size h2)
  kc := fun y hy => (hs.kc y hy).imp id (fun h2 => Nat.le_trans hb.size h2) }
theorem UpS.hung {U : Nod} {KA KB : List Int} {k c1 c2 : Int} {A B : List Kid} (h : UpS U KA k KB A c1 c2 B) (q : Int) : unhangN (setKid U KA.length q) KA.length = { leaf := false, K := KA ++ KB, V := [], C := kP A ++ [q] ++ kP B } := by
 have la : (kP A).length = KA.length := by rw [kP_length, h.a]
 unfold unhangN setKid
 dsimp only
 rw [h.k, h.c];have e1 : (KA ++ [k] ++ KB).take KA.length = KA := by rw [List.append_assoc]; exact List.take_left' rfl
 have e2 : (KA ++ [k] ++ KB).drop (KA.length + 1) = KB := List.drop_left' (by simp)
 have e3 : (kP A ++ [c1, c2] ++ kP B).set KA.length q = (kP A ++ [q]) ++ ([c2] ++ kP B) := by
  rw [List.append_assoc, List.set_append_right _ _ (by omega), la, Nat.sub_self];simp
 rw [e1, e2, e3];have e4 : ((kP A ++ [q]) ++ ([c2] ++ kP B)).take (KA.length + 1) = kP A ++ [q] := List.take_left' (by simp [la]);have e5 : ((kP A ++ [q]) ++ ([c2] ++ kP B)).drop (KA.length + 2) = kP B := by rw [← List.append_assoc]; exact List.drop_left' (by simp [la])
 rw [e4, e5]
theorem UpS.whole {U : Nod} {KA KB : List Int} {k c1 c2 : Int} {A B : List Kid} (h : UpS U KA k KB A c1 c2 B) (q : Int) : wholeB (setKid U KA.length q) = true ∧ (setKid U KA.length q).leaf = false ∧ KA.length + 1 ≤ (setKid U KA.length q).K.length := by
 refine ⟨(wholeB_branch (n := setKid U KA.length q) h.lf).2 ⟨?_, ?_⟩, h.lf, ?_⟩
 ·unfold setKid; dsimp only; rw [List.length_set, h.k, h.c]; simp only [List.length_append, List.length_cons, List.length_nil, kP_length, h.a, h.b]; omega
 ·unfold setKid; dsimp only; rw [h.v]; rfl
 ·unfold setKid; dsimp only; rw [h.k]; simp
theorem merge_ready {w5 : World} {x : StepV} {U : Nod} {Z : Nat → Prop} {i : Nat} {q1 : Int} (hA : StepA w5 x U Z) (hV : U.V = []) (hi : i < U.C.length) (b1 : 2 ≤ q1 ∧ q1 < 640) :
  ∃ (cb off : Nat), x.ac = some ⟨cb, off, none⟩ ∧ ¬ Z cb ∧ cb < w5.heap.size ∧ (∃ c, w5.cell? ⟨cb, off + i, none⟩ = some (.int .i64 c)) ∧ w5.frozen? ⟨cb, off + i, none⟩ = false ∧
   ∀ w6, w5.setCell ⟨cb, off + i, none⟩ (.int .i64 q1) = w6 → Frm (fun y => y = cb) w5 w6 ∧ RowsA w6 (setKid U i q1) x.ak x.av x.ac x.ck x.cv x.cc Z := by
 obtain ⟨cb, off, e1, e2, e3⟩ := hA.a.r.c.at i (by simpa using hi);have uc := hA.uc _ e1;have r5 := hA.a;rw [e1] at r5;refine ⟨cb, off, e1, hA.zc _ e1, e2, ⟨_, by rw [e3, List.getElem_map]; rfl⟩, uc.2 _, fun w6 h6 => ⟨by rw [← h6]; exact (Frm.refl _ w5).setCell _ _ (.inl rfl), ?_⟩⟩;rw [e1, ← h6];exact row_set r5 hV hi q1 (by omega)
theorem key_at {w : World} {x : StepV} {U : Nod} {Z : Nat → Prop} {KA KB : List Int} {k c1 c2 : Int} {A B : List Kid} (hA : StepA w x U Z) (h : UpS U KA k KB A c1 c2 B) : ∃ kb ko, x.ak = some ⟨kb, ko, none⟩ ∧ kb < w.heap.size ∧ w.cell? ⟨kb, ko + KA.length, none⟩ = some (.int .u64 k) ∧ 0 ≤ k ∧ k ≤ 18446744073709551615 := by
 obtain ⟨kb, ko, f1, f2, f3⟩ := hA.a.r.k.at KA.length (by rw [List.length_map]; exact h.sizes.2);refine ⟨kb, ko, f1, f2, ?_, hA.a.r.ok.kb k (by rw [h.k]; simp)⟩;rw [f3, List.getElem_map]
 have : U.K[KA.length]'(h.sizes.2) = k := by
  have e : U.K[KA.length]? = some k := by rw [h.k, List.append_assoc, List.getElem?_append_right (Nat.le_refl _), Nat.sub_self]; rfl
  rw [List.getElem?_eq_getElem h.sizes.2] at e;injection e
 rw [this]
 rfl
end Go.Proofs.YtmomlhiokggfbaaGreatDoor
