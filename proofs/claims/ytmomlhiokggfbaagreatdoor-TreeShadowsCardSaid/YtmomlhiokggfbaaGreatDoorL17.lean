/-
 TrSh, TrMg, TrSk, TrGet.
-/
import Derived.Test.YtmomlhiokggfbaaGreatDoorL16
import Derived.Deep.DeepCutAuto
namespace Go.Proofs.YtmomlhiokggfbaaGreatDoor
open Go.RowKit
set_option maxRecDepth 20000
set_option maxHeartbeats 12800000
set_option linter.unusedVariables false
set_option linter.unusedSimpArgs false
theorem vshare_is (w : World) (d s g : Nat) (dk : DkS) (st : ShS) (r : Nat) (F : Nat → Prop) (h : TS w d s g dk st r F) (G : Good dk st) (x : StepV) (U : Nod) (hX : StepA w x U F) (fs : List Frame) (hh : Nat) (KA KB : List Int) (k pl pr c1 c2 : Int) (A B : List Kid) (NL NR : Nod) (E : List Ent)
  (hp : PairI dk st fs hh x.p KA k KB A B pl NL pr NR E) (hU : UpS U KA k KB A c1 c2 B) (hN : NB U 240) (hb : NB (bothN NL k NR) 320) (hz : 240 < sizeN (bothN NL k NR)) (ak av ac : Option Addr) (ck cv cc : Nat) (hM : NodR w (bothN NL k NR) ak av ac ck cv cc) (hroom : Room dk st 2) :
  Calls Tryz.prog 116 #[.pointer (some ⟨g, 0, none⟩), x.val, .int .i64 (KA.length : Int), .int .i64 pl, .int .i64 pr, nodV (bothN NL k NR) ak av ac ck cv cc] w (ShrOut w d s g dk st F x x.p fs (hh + 1) E 2 (fun r' => r' = r)) := by
 have hw := hp.both.2.2.2.2.1;have hl := many_keys hw hb.1 hz;obtain ⟨rA, rB⟩ := hp.parts hb hl
 obtain ⟨mid, hm⟩ : ∃ mid, (bothN NL k NR).K[cutN (bothN NL k NR)]? = some mid := by
  obtain ⟨FL, FR, PC, F1, P1, F2, P2, a1, a2, a3, a4, a5, h1, h2, h3, h4, h5⟩ := hp;obtain ⟨F0, t1, _⟩ := both_T h1 h2 k;obtain ⟨mid, _, _, _, _, s1, _⟩ := split_T t1 hl;exact ⟨mid, s1⟩
 have hmb : 0 ≤ mid ∧ mid ≤ 18446744073709551615 := hM.ok.kb mid (List.mem_of_getElem? hm);obtain ⟨hp1, hp2, hA1, hB1⟩ := hp.heads G;have hsz := hU.sizes;have two := fun dk1 st1 dk' st' q1 q2 (a1 : Laid dk st pl (aheadN (bothN NL k NR) (cutN (bothN NL k NR))) dk1 st1 q1) (a2 : Laid dk1 st1 pr (behindN (bothN NL k NR) (cutN (bothN NL k NR))) dk' st' q2) => merge_two (dk' := dk') (N := { leaf := false, K := KA ++ [mid] ++ KB, V := [], C := kP A ++ [q1, q2] ++ kP B }) hp hl hm a1 a2 rfl rfl rfl rfl
 have lv := hp.both.2.2.2.2.2.2.1;have lvr := fun dk1 st1 q1 (a1 : Laid dk st pl (aheadN (bothN NL k NR) (cutN (bothN NL k NR))) dk1 st1 q1) => hp.then a1
 obtain ⟨w1, hw1⟩ : ∃ w1, (((w.alloc (.cells #[.int .i64 x.p, .int .i64 x.i, .bool x.fd, .bool x.lf, .slice x.ak x.lk x.ck, .slice x.av x.lv x.cv, .slice x.ac x.lc x.cc] 99)).alloc (.cells #[.bool (bothN NL k NR).leaf, .slice ak (bothN NL k NR).K.length ck, .slice av (bothN NL k NR).V.length cv, .slice ac (bothN NL k NR).C.length cc] 97)).alloc (.cells #[.int .i64 0, .int .i64 0, .bool false, .bool false, .slice none 0 0, .slice none 0 0, .slice none 0 0] 99)) = w1 := ⟨_, rfl⟩
 have B1 : Below w.heap.size w w1 := by rw [← hw1]; exact (((Below.refl _ w).alloc (Nat.le_refl _) _).alloc (by simp) _).alloc (by simp; omega) _
 have z1 : w1.heap.size = w.heap.size + 3 := by rw [← hw1]; simp
 have XU1 : w1.heap[w.heap.size]? = some (.cells #[.int .i64 x.p, .int .i64 x.i, .bool x.fd, .bool x.lf, .slice x.ak x.lk x.ck, .slice x.av x.lv x.cv, .slice x.ac x.lc x.cc] 99) := by rw [← hw1]; exact (hao _ _ (by simp; omega)).trans ((hao _ _ (by simp)).trans (han w _))
 have XM1 : w1.heap[w.heap.size + 1]? = some (.cells #[.bool (bothN NL k NR).leaf, .slice ak (bothN NL k NR).K.length ck, .slice av (bothN NL k NR).V.length cv, .slice ac (bothN NL k NR).C.length cc] 97) := by
  rw [← hw1];have := han (w.alloc (.cells #[.int .i64 x.p, .int .i64 x.i, .bool x.fd, .bool x.lf, .slice x.ak x.lk x.ck, .slice x.av x.lv x.cv, .slice x.ac x.lc x.cc] 99)) (.cells #[.bool (bothN NL k NR).leaf, .slice ak (bothN NL k NR).K.length ck, .slice av (bothN NL k NR).V.length cv, .slice ac (bothN NL k NR).C.length cc] 97);rw [World.size_alloc] at this;exact (hao _ _ (by simp)).trans this
 have XZ1 : w1.heap[w.heap.size + 2]? = some (.cells #[.int .i64 0, .int .i64 0, .bool false, .bool false, .slice none 0 0, .slice none 0 0, .slice none 0 0] 99) := by
  rw [← hw1];have := han ((w.alloc (.cells #[.int .i64 x.p, .int .i64 x.i, .bool x.fd, .bool x.lf, .slice x.ak x.lk x.ck, .slice x.av x.lv x.cv, .slice x.ac x.lc x.cc] 99)).alloc (.cells #[.bool (bothN NL k NR).leaf, .slice ak (bothN NL k NR).K.length ck, .slice av (bothN NL k NR).V.length cv, .slice ac (bothN NL k NR).C.length cc] 97)) (.cells #[.int .i64 0, .int .i64 0, .bool false, .bool false, .slice none 0 0, .slice none 0 0, .slice none 0 0] 99);rw [World.size_alloc, World.size_alloc] at this;exact this
 have SP := Hd (split_yesL (bothN NL k NR) ak av ac ck cv cc w1 (hM.below B1) hw hl mid hm);obtain ⟨m0, m1, m2, m3⟩ := cells4 XM1;have HLT := Hd h.lt;have HX := Hd hX;have HUN := Hd (hU.nb hN);have HUS := Hd hU.shared;generalize hMM : bothN NL k NR = M at *;generalize aheadN M (cutN M) = NA at *;generalize behindN M (cutN M) = Nb at *
 have LA : Hid (∀ w5 xk xv xc dk0 dv dc yk yv yc ek ev ec, Below w1.heap.size w1 w5 → NodR w5 NA xk xv xc dk0 dv dc → LoR w1.heap.size xk xv xc → NodR w5 Nb yk yv yc ek ev ec → LoR w1.heap.size yk yv yc →
   Calls Tryz.prog 87 #[.pointer (some ⟨g, 0, none⟩), .int .i64 pl, nodV NA xk xv xc dk0 dv dc] w5 fun e w6 => ∃ q1, e = .returned (.tuple #[.int .i64 q1, .int .i64 0]) ∧ Frm F w5 w6 ∧
    Calls Tryz.prog 87 #[.pointer (some ⟨g, 0, none⟩), .int .i64 pr, nodV Nb yk yv yc ek ev ec] w6 fun e w7 => ∃ q2, e = .returned (.tuple #[.int .i64 q2, .int .i64 0]) ∧ Frm F w5 w7 ∧ (2 ≤ q1 ∧ q1 < 640) ∧ (2 ≤ q2 ∧ q2 < 640) ∧
     ∃ dk' st' F', TS w7 d s g dk' st' r F' ∧ (∀ k, F' k → F k ∨ w5.heap.size ≤ k) ∧ To dk st dk' st' ∧ (∀ k, Room dk st (k + 2) → Room dk' st' k) ∧ AtI dk' st' fs (hh + 1) x.p { leaf := false, K := KA ++ [mid] ++ KB, V := [], C := kP A ++ [q1, q2] ++ kP B } E) := Hd (fun w5 xk xv xc dk0 dv dc yk yv yc ek ev ec b5 hA hloA hB hloB => by
  have ltF : ∀ k, F k → k < w.heap.size := HLT.out;have b05 := B1.trans (b5.mono B1.size);have hRA : RowsA w5 NA xk xv xc dk0 dv dc F := RowsA.new hA hloA.1 hloA.2.1 hloA.2.2 (fun k hk => by have := ltF k hk; omega);have hRB : RowsA w5 Nb yk yv yc ek ev ec F := RowsA.new hB hloB.1 hloB.2.1 hloB.2.2 (fun k hk => by have := ltF k hk; omega);refine (vlay_is w5 d s g dk st r F (h.below b05) G pl lv (hroom.le (by omega)) NA rA xk xv xc dk0 dv dc hRA).mono ?_;rintro e w6 ⟨q1, dk1, st1, rfl, ⟨F1, t1, t2, t3⟩, l1, r1⟩;refine ⟨q1, rfl, t2, ?_⟩
  have hRB6 : RowsA w6 Nb yk yv yc ek ev ec F1 := by
   have hz := hRB.grow t3;exact ⟨(hRB.frm t2 (fun k hk => hk)).r, hz.zk, hz.zv, hz.zc⟩
  refine (vlay_is w6 d s g dk1 st1 r F1 t1 l1.tt.g pr (lvr _ _ _ l1) (r1 1 hroom) Nb rB yk yv yc ek ev ec hRB6).mono ?_;rintro e w7 ⟨q2, dk', st', rfl, ⟨F2, t4, t5, t6⟩, l2, r2⟩;refine ⟨q2, rfl, t2.trans t5 t3, ⟨l1.lo, l1.hi⟩, ⟨l2.lo, l2.hi⟩, dk', st', F2, t4, fun k hk => ?_, l1.tt.trans l2.tt, fun k hk => r2 k (r1 (k + 1) hk), two dk1 st1 dk' st' q1 q2 l1 l2⟩
  rcases t6 k hk with h1 | h1
  ·exact t3 k h1
  ·exact .inr (by have := t2.size; omega))
 have HK : Hid (KA.length + 1 < U.C.length ∧ KA.length < U.K.length ∧ U.V = [] ∧ (0 ≤ mid ∧ mid ≤ 18446744073709551615) ∧ U.C.length ≤ 1000) := Hd ⟨hsz.1, hsz.2, hU.v, hmb, hX.a.r.ok.c1⟩;have HLN : Hid (x.lf = false ∧ x.lk = U.K.length ∧ x.lv = 0 ∧ x.lc = U.C.length) := Hd ⟨by rw [hX.lf, hU.lf], hX.lk, by rw [hX.lv, hU.v]; rfl, hX.lc⟩;have HB1 := Hd B1;have HXU := Hd XU1;have HXZ := Hd XZ1;have HZ1 := Hd z1;obtain ⟨j, hj⟩ : ∃ j, KA.length = j := ⟨_, rfl⟩
 have HLQ : Hid (∀ q1 q2 : Int, ({ leaf := false, K := KA ++ [mid] ++ KB, V := [], C := kP A ++ [q1, q2] ++ kP B } : Nod).K.length = U.K.length ∧ ({ leaf := false, K := KA ++ [mid] ++ KB, V := [], C := kP A ++ [q1, q2] ++ kP B } : Nod).C.length = U.C.length) := Hd (fun q1 q2 => by rw [hU.k, hU.c]; simp);rw [hj] at HK HUS ⊢;clear h G hX hp hU hN hb hz hM hroom hw hl rA rB hm hmb hp1 hp2 hA1 hB1 hsz two lv lvr B1 XU1 XM1 XZ1 z1 hj hMM;unfold nodV StepV.val at *;go_enter Tryz.func116, Tryz.ntmps116;go_wp2_with fail;refine SP.out.mono ?_
 rintro e w4 ⟨⟨xk, xv, xc, dk0, dv, dc, yk, yv, yc, ek, ev, ec, rfl, hA, hB, hloA, hloB⟩, b4⟩;unfold nodV;go_upto_region 2 with fail
 obtain ⟨w5, hw5⟩ : ∃ w5, (w4.alloc (.cells #[.bool NA.leaf, .slice xk NA.K.length dk0, .slice xv NA.V.length dv, .slice xc NA.C.length dc] 97)).alloc (.cells #[.bool Nb.leaf, .slice yk Nb.K.length ek, .slice yv Nb.V.length ev, .slice yc Nb.C.length ec] 97) = w5 := ⟨_, rfl⟩
 have B5 : Below w4.heap.size w4 w5 := by rw [← hw5]; exact ((Below.refl _ w4).alloc (Nat.le_refl _) _).alloc (by simp) _
 have z5 : w5.heap.size = w4.heap.size + 2 := by rw [← hw5]; simp
 have XA5 : w5.heap[w4.heap.size]? = some (.cells #[.bool NA.leaf, .slice xk NA.K.length dk0, .slice xv NA.V.length dv, .slice xc NA.C.length dc] 97) := by rw [← hw5]; exact (hao _ _ (by simp)).trans (han w4 _)
 have XB5 : w5.heap[w4.heap.size + 1]? = some (.cells #[.bool Nb.leaf, .slice yk Nb.K.length ek, .slice yv Nb.V.length ev, .slice yc Nb.C.length ec] 97) := by
  rw [← hw5];have := han (w4.alloc (.cells #[.bool NA.leaf, .slice xk NA.K.length dk0, .slice xv NA.V.length dv, .slice xc NA.C.length dc] 97)) (.cells #[.bool Nb.leaf, .slice yk Nb.K.length ek, .slice yv Nb.V.length ev, .slice yc Nb.C.length ec] 97);rw [World.size_alloc] at this;exact this
 have s14 := b4.size;have B15 : Below w1.heap.size w1 w5 := b4.trans (B5.mono s14);have L5 := Hd (LA.out w5 xk xv xc dk0 dv dc yk yv yc ek ev ec B15 (hA.below B5) hloA (hB.below B5) hloB);have HXB := Hd XB5;have S45 : Hid (w4.heap.size + 1 < w5.heap.size ∧ w.heap.size + 3 ≤ w4.heap.size) := Hd ⟨by omega, by have := HZ1.out; omega⟩;have H15 := Hd B15;obtain ⟨a0, a1, a2, a3⟩ := cells4 XA5;rw [hw5];clear hw5 B5 z5 XA5 XB5 s14 B15 b4 hA hB hloA hloB LA SP m0 m1 m2 m3;unfold nodV at L5;go_wp2_with fail;refine L5.out.mono ?_;rintro e w6 ⟨q1, rfl, f56, hl2⟩
 have XB6 := (f56.block _ S45.out.1 (fun hx => by have := HLT.out _ hx; have := S45.out; omega)).trans HXB.out;have L6 := Hd hl2;obtain ⟨b0, b1, b2, b3⟩ := cells4 XB6;clear hl2 f56 XB6 a0 a1 a2 a3;go_wp2_with fail;refine L6.out.mono ?_;rintro e w7 ⟨q2, rfl, f57, bq1, bq2, dk', st', F', T7, tF, tt, rm, hat⟩;have f07 : Frm F w w7 := (Frm.of_below (HB1.out.trans (H15.out.mono HB1.out.size)) : Frm F w w5).trans f57 (fun k hk => .inl hk);have s57 := f57.size
 have XU7 : Hid (w7.heap[w.heap.size]? = some (.cells #[.int .i64 x.p, .int .i64 x.i, .bool x.fd, .bool x.lf, .slice x.ak x.lk x.ck, .slice x.av x.lv x.cv, .slice x.ac x.lc x.cc] 99)) := Hd ((f57.block _ (by have := S45.out; omega) (fun hx => by have := HLT.out _ hx; omega)).trans (kept HXU.out (H15.out.mono (Nat.le_refl _))))
 have XZ7 : Hid (w7.heap[w.heap.size + 2]? = some (.cells #[.int .i64 0, .int .i64 0, .bool false, .bool false, .slice none 0 0, .slice none 0 0, .slice none 0 0] 99)) := Hd ((f57.block _ (by have := S45.out; omega) (fun hx => by have := HLT.out _ hx; omega)).trans (kept HXZ.out (H15.out.mono (Nat.le_refl _))))
 have X7 : StepA w7 x U (fun k => F k ∨ F' k ∨ k = w.heap.size + 2) := (HX.out.grow (fun k hk => by
  rcases hk with hk | hk | hk
  ·exact .inl hk
  ·exact (tF k hk).imp id (fun hy => by have := S45.out; omega)
  ·exact .inr (by omega))).frm f07 (fun k hk => .inl hk)
 obtain ⟨cb, off, kb, ko, e1, e2, zc, zk, zl, zm, ⟨c1', e0⟩, u0, hry⟩ := share_ready (q1 := q1) (q2 := q2) (i := j) (X7.frm (G := fun _ => False) (Frm.refl _ w7).drew (fun _ hx => hx.elim)) HK.out.2.2.1 HK.out.1 HK.out.2.1 bq1 bq2 HK.out.2.2.2.1;have RY := Hd hry;have cbl : cb < w.heap.size := (HX.out.uc _ e1).1;have kbl : kb < w.heap.size := (HX.out.uk _ e2).1
 have HCB : Hid (cb < w.heap.size ∧ kb < w.heap.size ∧ ¬ F' cb ∧ ¬ F' kb ∧ ¬ F' (w.heap.size + 2) ∧ XB x cb ∧ XB x kb) := Hd ⟨cbl, kbl, fun hx => zc (.inr (.inl hx)), fun hx => zk (.inr (.inl hx)), fun hx => by
  rcases tF _ hx with h1 | h1
  ·have := HLT.out _ h1; omega
  ·have := S45.out; omega, .inr ⟨_, e1, rfl⟩, .inl ⟨_, e2, rfl⟩⟩
 have BL7 : Hid (w.heap.size < w7.heap.size) := Hd (by have := S45.out; omega);have BL8 : Hid (w.heap.size + 2 < w7.heap.size) := Hd (by have := S45.out; omega);have BN7 : Hid (¬ (w.heap.size = cb ∨ w.heap.size = kb)) := Hd (by omega);have BN8 : Hid (¬ (w.heap.size + 2 = cb ∨ w.heap.size + 2 = kb)) := Hd (by omega);have ltj : (j : Int) < (x.lc : Int) := by have := HLN.out.2.2.2; have := HK.out.1; omega
 have ltj1 : (j : Int) + 1 < (x.lc : Int) := by have := HLN.out.2.2.2; have := HK.out.1; omega
 have ltjk : (j : Int) < (x.lk : Int) := by have := HLN.out.2.1; have := HK.out.2.1; omega
 have hwr : IntKind.i64.wrap ((j : Int) + 1) = (j : Int) + 1 := IntWalk.i64_in _ (by have := HK.out.2.2.2.2; have := HK.out.1; omega);have hj0 : (0 : Int) ≤ (j : Int) + 1 := by omega
 have EE := Hd (And.intro e1 e2);rw [e1, e2] at XU7;have TT := Hd T7;have TE := Hd tF;have FF := Hd f07;have TG := Hd (And.intro tt (And.intro rm hat));have BQ := Hd (And.intro bq1 bq2);clear X7 e1 e2 zc zk zl zm hry cbl kbl T7 tF f07 f57 s57 tt rm hat bq1 bq2 b0 b1 b2 b3 L5 L6 HXB;go_upto_region 6 with fail
 refine wp_region_held_drew (S := fun wz => Frm (fun y => y = cb ∨ y = kb) w7 wz) (by kernel_rfl) ((Frm.refl (fun y => y = cb ∨ y = kb) w7).drew) (fun hS => ?_);refine Hu 0 46 hS ?_;simp only [SL];refine Hu 1 47 hS ?_;simp only [SL];refine Hv 2 48 ?v2x3 hS ?h2x3 ?_
 case h2x3 =>
  intro w9 s9;have cN := cl ((s9.block _ BL7.out BN7.out).trans XU7.out) 6 rfl;clear s9;go_simp;try (with_reducible rfl)
 simp only [SL];refine Hu 3 49 hS ?_;simp only [SL];refine Hu 4 50 hS ?_;simp only [SL];refine Hu 5 51 hS ?_;simp only [SL];refine Hv 6 52 ?v6x7 hS ?h6x7 ?_
 case h6x7 =>
  intro w9 s9;have cN := cl ((s9.block _ BL7.out BN7.out).trans XU7.out) 6 rfl;clear s9;go_simp;try (with_reducible rfl)
 simp only [SL];refine Hu 7 53 hS ?_;simp only [SL];refine Hu 8 54 hS ?_;simp only [SL];refine Hu 9 55 hS ?_;simp only [SL];refine Hu 10 56 hS ?_;simp only [SL];refine Hu 11 57 hS ?_;simp only [SL];refine Hs 12 (fun K HK => ?_);go_simp;refine HK.out _ _ ?_ ?_
 ·exact hS.setCell _ _ (.inl (.inl rfl))
 clear HK K;try simp only [Act.put, SL]
 have hS9 : Frm (fun y => y = cb ∨ y = kb) w7 (w7.setCell ⟨cb, off + j, none⟩ (.int .i64 q1)).drew := hS.setCell ⟨cb, off + j, none⟩ (.int .i64 q1) (.inl (.inl rfl));clear hS;obtain ⟨w8, hw8⟩ : ∃ w8, (w7.setCell ⟨cb, off + j, none⟩ (.int .i64 q1)).drew = w8 := ⟨_, rfl⟩
 obtain ⟨⟨c2, e2⟩, u2, _, R8⟩ := RY.out w8 hw8;have RZ := Hd R8;clear R8;rw [hw8] at hS9;rw [hw8];have hS := hS9;clear hS9 hw8 e0 u0;refine Hu 13 58 hS ?_;simp only [SL];refine Hs 14 (fun K HK => ?_);go_simp;refine HK.out _ _ ?_ ?_
 ·exact hS.setCell _ _ (.inl (.inl rfl))
 clear HK K;try simp only [Act.put, SL]
 clear hS e2 u2;refine wpAnyH_done (by kernel_rfl) ?_ _
 skip
 obtain ⟨wa, hwa⟩ : ∃ wa, w8.setCell ⟨cb, off + (j + 1), none⟩ (.int .i64 q2) = wa := ⟨_, rfl⟩
 obtain ⟨⟨c3, e3⟩, u3, fa, Ra⟩ := RZ.out wa hwa;have RW := Hd Ra;have XUa : wa.heap[w.heap.size]? = some (.cells #[.int .i64 x.p, .int .i64 x.i, .bool x.fd, .bool x.lf, .slice (some ⟨kb, ko, none⟩) x.lk x.ck, .slice x.av x.lv x.cv, .slice (some ⟨cb, off, none⟩) x.lc x.cc] 99) := (fa.block w.heap.size BL7.out BN7.out).trans XU7.out;obtain ⟨_, _, _, _, d4, _, d6⟩ := cells7 XUa;rw [hwa];clear hwa fa Ra XUa;go_upto_region 8 with fail
 obtain ⟨wb, hwb⟩ : ∃ wb, wa.setCell ⟨kb, ko + j, none⟩ (.int .u64 mid) = wb := ⟨_, rfl⟩
 obtain ⟨rB, fb⟩ := RW.out wb hwb;rw [HUS.out q1 q2 mid] at rB;have XUb : wb.heap[w.heap.size]? = some (.cells #[.int .i64 x.p, .int .i64 x.i, .bool x.fd, .bool x.lf, .slice (some ⟨kb, ko, none⟩) x.lk x.ck, .slice x.av x.lv x.cv, .slice (some ⟨cb, off, none⟩) x.lc x.cc] 99) := (fb.block w.heap.size BL7.out BN7.out).trans XU7.out;have XZb : wb.heap[w.heap.size + 2]? = some (.cells #[.int .i64 0, .int .i64 0, .bool false, .bool false, .slice none 0 0, .slice none 0 0, .slice none 0 0] 99) := (fb.block (w.heap.size + 2) BL8.out BN8.out).trans XZ7.out
 have F7e : Frm (fun y => (y = cb ∨ y = kb) ∨ y = w.heap.size + 2) w7 (put7 wb (w.heap.size + 2) x) := put7_frm ((((Frm.refl (fun y => (y = cb ∨ y = kb) ∨ y = w.heap.size + 2) w7).drew).trans fb (fun y hy => .inl (.inl hy)))) _ _ (.inl (.inr rfl));have Fbe : Frm (fun y => y = w.heap.size + 2) wb (put7 wb (w.heap.size + 2) x) := put7_frm (Frm.refl _ wb) _ _ (.inl rfl);have Z := Hd (cells7 (put7_block XZb x))
 have END : Hid (ShrOut w d s g dk st F x x.p fs (hh + 1) E 2 (fun r' => r' = r) (.returned (.tuple #[.agg #[.int .i64 x.p, .int .i64 x.i, .bool x.fd, .bool x.lf, .slice x.ak x.lk x.ck, .slice x.av x.lv x.cv, .slice x.ac x.lc x.cc], .int .i64 0])) (put7 wb (w.heap.size + 2) x)) := Hd (by
  refine ⟨x.i, x.fd, _, x.ak, x.av, x.ac, x.ck, x.cv, x.cc, dk', st', r, F', ?_, rfl, TT.out.frm F7e (fun y hy hx => ?_), FF.out.mono (fun _ hy => .inl hy) |>.trans F7e (fun y hy => ?_), fun y hy => ?_, ((rB.frm Fbe (fun y hy => .inr (.inr hy))).mono (fun y hy => .inr (.inl hy))), rfl, fun y hy => .inl (.inl ⟨y, hy, rfl⟩), fun y hy => .inl (.inr ⟨y, hy, rfl⟩), TG.out.2.2, HUN.out q1 q2 mid BQ.out.1 BQ.out.2, TG.out.1, TG.out.2.1⟩
  ·rw [HLN.out.1, HLN.out.2.1, HLN.out.2.2.1, HLN.out.2.2.2, (HLQ.out q1 q2).1, (HLQ.out q1 q2).2]
   first | done | rfl
  ·have hc := HCB.out
   rcases hx with (rfl | rfl) | rfl
   ·exact hc.2.2.1 hy
   ·exact hc.2.2.2.1 hy
   ·exact hc.2.2.2.2.1 hy
  ·have hc := HCB.out
   rcases hy with (rfl | rfl) | rfl
   ·exact .inl (.inr hc.2.2.2.2.2.1)
   ·exact .inl (.inr hc.2.2.2.2.2.2)
   ·exact .inr (by omega)
  ·exact (TE.out y hy).imp id (fun hx => by have := S45.out; omega))
 have g0 := ufb XZb 0;have g1 := ufb XZb 1;have g2 := ufb XZb 2;have g3 := ufb XZb 3;have g4 := ufb XZb 4;have g5 := ufb XZb 5;have g6 := ufb XZb 6;obtain ⟨i0, i1, i2, i3, i4, i5, i6⟩ := cells7 XZb;clear d4 d6;obtain ⟨d0, d1, d2, d3, d4, d5, d6⟩ := cells7 XUb;unfold put7 at Z END;rw [EE.out.1, EE.out.2] at Z END;rw [hwb];clear hwb rB fb XUb XZb F7e Fbe e3 u3;go_wp2_with fail
 exact bodyPost_ret (v := .tuple #[.agg #[.int .i64 x.p, .int .i64 x.i, .bool x.fd, .bool x.lf, .slice (some ⟨kb, ko, none⟩) x.lk x.ck, .slice x.av x.lv x.cv, .slice (some ⟨cb, off, none⟩) x.lc x.cc], .int .i64 0]) (by simp [results, Tryz.results116, go_sem, Z.out.1, Z.out.2.1, Z.out.2.2.1, Z.out.2.2.2.1, Z.out.2.2.2.2.1, Z.out.2.2.2.2.2.1, Z.out.2.2.2.2.2.2]) rfl END.out
theorem alloc4 (w : World) (a b c d : Obj) : ((((w.alloc a).alloc b).alloc c).alloc d).heap[w.heap.size]? = some a ∧ ((((w.alloc a).alloc b).alloc c).alloc d).heap[w.heap.size + 1]? = some b ∧ ((((w.alloc a).alloc b).alloc c).alloc d).heap[w.heap.size + 2]? = some c ∧ ((((w.alloc a).alloc b).alloc c).alloc d).heap[w.heap.size + 3]? = some d ∧ ((((w.alloc a).alloc b).alloc c).alloc d).heap.size = w.heap.size + 4 ∧ Below w.heap.size w ((((w.alloc a).alloc b).alloc c).alloc d) := by
 have s1 : (w.alloc a).heap.size = w.heap.size + 1 := by simp
 have s2 : ((w.alloc a).alloc b).heap.size = w.heap.size + 2 := by simp
 have s3 : (((w.alloc a).alloc b).alloc c).heap.size = w.heap.size + 3 := by simp
 refine ⟨?_, ?_, ?_, ?_, by simp, ((((Below.refl _ w).alloc (Nat.le_refl _) a).alloc (by omega) b).alloc (by omega) c).alloc (by omega) d⟩
 ·exact (hao _ _ (by omega)).trans ((hao _ _ (by omega)).trans ((hao _ _ (by omega)).trans (han w a)))
 ·have := han (w.alloc a) b
  rw [s1] at this;exact (hao _ _ (by omega)).trans ((hao _ _ (by omega)).trans this)
 ·have := han ((w.alloc a).alloc b) c
  rw [s2] at this;exact (hao _ _ (by omega)).trans this
 ·have := han (((w.alloc a).alloc b).alloc c) d
  rw [s3] at this;exact this
theorem vmerge_is (w : World) (d s g : Nat) (dk : DkS) (st : ShS) (r : Nat) (F : Nat → Prop) (h : TS w d s g dk st r F) (G : Good dk st) (x : StepV) (U : Nod) (hX : StepA w x U F) (fs : List Frame) (hh : Nat) (KA KB : List Int) (k pl pr c1 c2 : Int) (A B : List Kid) (NL NR : Nod) (E : List Ent)
  (hp : PairI dk st fs hh x.p KA k KB A B pl NL pr NR E) (hU : UpS U KA k KB A c1 c2 B) (hN : NB U 240) (h1 : NB NL 240) (h2 : NB NR 240) (hz : sizeN NL < 80 ∨ sizeN NR < 80) (hk : NL.K ≠ [] ∨ NR.K ≠ []) (la lb lc ra rb rc : Option Addr) (m1 m2 m3 n1 n2 n3 : Nat) (il ir : Int) (fl fr : Bool) (hNL : NodR w NL la lb lc m1 m2 m3) (hNR : NodR w NR ra rb rc n1 n2 n3) (hroom : Room dk st 2) :
  Calls Tryz.prog 88 #[.pointer (some ⟨g, 0, none⟩), x.val, .int .i64 (KA.length : Int), .agg #[.int .i64 pl, .int .i64 il, .bool fl, .bool NL.leaf, .slice la NL.K.length m1, .slice lb NL.V.length m2, .slice lc NL.C.length m3], .agg #[.int .i64 pr, .int .i64 ir, .bool fr, .bool NR.leaf, .slice ra NR.K.length n1, .slice rb NR.V.length n2, .slice rc NR.C.length n3]] w (ShrOut w d s g dk st F x x.p fs (hh + 1) E 2 (fun r' => r' = r)) := by
 obtain ⟨l1, l2, l3, l4, hw, _, lvl, lvr, lne⟩ := hp.both;obtain ⟨lf, hlf⟩ : ∃ lf, NL.leaf = lf := ⟨_, rfl⟩
 have hrf : NR.leaf = lf := by rw [← hlf, l1, l2]
 obtain ⟨hb, b1, b2, b3, b4, b5, b6⟩ := hp.nb h1 h2 hz;obtain ⟨kb, ko, ek, kbl, kcell, kbd⟩ := key_at hX hU;obtain ⟨cb, off, ec, zc, cbl, _⟩ := merge_ready (q1 := 2) (i := KA.length) hX hU.v (by have := hU.sizes; omega) (by omega);obtain ⟨hp1, hp2, hA1, hB1⟩ := hp.heads G;have hsz := hU.sizes;have HLT := Hd h.lt
 have XBL : Hid (∀ k, XB x k → k < w.heap.size) := Hd (fun k hk => by
  rcases hk with ⟨y, hy, rfl⟩ | ⟨y, hy, rfl⟩
  ·exact (hX.uk y hy).1
  ·exact (hX.uc y hy).1)
 obtain ⟨w1, hw1⟩ : ∃ w1, (((w.alloc (.cells #[.int .i64 x.p, .int .i64 x.i, .bool x.fd, .bool x.lf, .slice (some ⟨kb, ko, none⟩) x.lk x.ck, .slice x.av x.lv x.cv, .slice (some ⟨cb, off, none⟩) x.lc x.cc] 99)).alloc (.cells #[.int .i64 pl, .int .i64 il, .bool fl, .bool lf, .slice la NL.K.length m1, .slice lb NL.V.length m2, .slice lc NL.C.length m3] 99)).alloc (.cells #[.int .i64 pr, .int .i64 ir, .bool fr, .bool lf, .slice ra NR.K.length n1, .slice rb NR.V.length n2, .slice rc NR.C.length n3] 99)).alloc (.cells #[.int .i64 0, .int .i64 0, .bool false, .bool false, .slice none 0 0, .slice none 0 0, .slice none 0 0] 99) = w1 := ⟨_, rfl⟩
 obtain ⟨x1, x2, x3, x4, z1, B1⟩ := alloc4 w (.cells #[.int .i64 x.p, .int .i64 x.i, .bool x.fd, .bool x.lf, .slice (some ⟨kb, ko, none⟩) x.lk x.ck, .slice x.av x.lv x.cv, .slice (some ⟨cb, off, none⟩) x.lc x.cc] 99) (.cells #[.int .i64 pl, .int .i64 il, .bool fl, .bool lf, .slice la NL.K.length m1, .slice lb NL.V.length m2, .slice lc NL.C.length m3] 99) (.cells #[.int .i64 pr, .int .i64 ir, .bool fr, .bool lf, .slice ra NR.K.length n1, .slice rb NR.V.length n2, .slice rc NR.C.length n3] 99) (.cells #[.int .i64 0, .int .i64 0, .bool false, .bool false, .slice none 0 0, .slice none 0 0, .slice none 0 0] 99)
 rw [hw1] at x1 x2 x3 x4 z1 B1;have XU := Hd x1;have XL := Hd x2;have XR := Hd x3;have XZ := Hd x4;have Z1 := Hd z1;have B01 := Hd B1;have LL : Hid (w.heap.size + 1 < w1.heap.size) := Hd (by omega);have LU : Hid (w.heap.size < w1.heap.size) := Hd (by omega);have LR : Hid (w.heap.size + 2 < w1.heap.size) := Hd (by omega);have KC0 : kb < w1.heap.size ∧ w1.cell? ⟨kb, ko + KA.length, none⟩ = some (.int .u64 k) := ⟨by omega, (B1.cell (p := ⟨kb, ko + KA.length, none⟩) kbl).trans kcell⟩
 have TG : Hid (∀ wz, Below w1.heap.size w1 wz → Calls Tryz.prog 115 #[.agg #[.bool lf, .slice la NL.K.length m1, .slice lb NL.V.length m2, .slice lc NL.C.length m3], .int .u64 k, .agg #[.bool lf, .slice ra NR.K.length n1, .slice rb NR.V.length n2, .slice rc NR.C.length n3]] wz fun e w' => NodBack wz.heap.size (bothN NL k NR) e w' ∧ Below wz.heap.size wz w') := Hd (fun wz bz => by
  have b0 := B1.trans (bz.mono B1.size);have := together_is NL NR la lb lc ra rb rc m1 m2 m3 n1 n2 n3 wz (hNL.below b0) (hNR.below b0) k kbd (by omega) (by omega) (by omega);unfold nodV at this;rw [hlf, hrf] at this;exact this)
 obtain ⟨z, hzz⟩ : ∃ z, sizeN (bothN NL k NR) = z := ⟨_, rfl⟩
 have SZ : Hid (∀ wz bk bv bc dk0 dv dc, NodR wz (bothN NL k NR) bk bv bc dk0 dv dc → Calls Tryz.prog 86 #[nodV (bothN NL k NR) bk bv bc dk0 dv dc] wz fun e w' => e = .returned (.int .i64 (z : Int)) ∧ Below wz.heap.size wz w') := Hd (fun wz bk bv bc dk0 dv dc hr => size_is (bothN NL k NR) bk bv bc dk0 dv dc wz hr z (Hd hzz) hw)
 have SHR : Hid (240 < z → ∀ wz bk bv bc dk0 dv dc, Below w1.heap.size w1 wz → NodR wz (bothN NL k NR) bk bv bc dk0 dv dc → Calls Tryz.prog 116 #[.pointer (some ⟨g, 0, none⟩), .agg #[.int .i64 x.p, .int .i64 x.i, .bool x.fd, .bool x.lf, .slice (some ⟨kb, ko, none⟩) x.lk x.ck, .slice x.av x.lv x.cv, .slice (some ⟨cb, off, none⟩) x.lc x.cc], .int .i64 (KA.length : Int), .int .i64 pl, .int .i64 pr, nodV (bothN NL k NR) bk bv bc dk0 dv dc] wz (ShrOut wz d s g dk st F x x.p fs (hh + 1) E 2 (fun r' => r' = r))) := Hd (fun hz9 wz bk bv bc dk0 dv dc bz hr => by
  rw [← hzz] at hz9;have b0 := B1.trans (bz.mono B1.size);have := vshare_is wz d s g dk st r F (h.below b0) G x U (hX.frm (G := fun _ => False) (Frm.of_below b0) (fun _ hx => hx.elim)) fs hh KA KB k pl pr c1 c2 A B NL NR E hp hU hN hb hz9 bk bv bc dk0 dv dc hr hroom;unfold StepV.val at this;rw [ek, ec] at this;exact this)
 have LAY : Hid (z ≤ 240 → ∀ wz bk bv bc dk0 dv dc, Below w1.heap.size w1 wz → RowsA wz (bothN NL k NR) bk bv bc dk0 dv dc F → Calls Tryz.prog 87 #[.pointer (some ⟨g, 0, none⟩), .int .i64 pl, nodV (bothN NL k NR) bk bv bc dk0 dv dc] wz (PutOn wz d s g dk st r F (Laid dk st pl (bothN NL k NR)) 1)) := Hd (fun hz9 wz bk bv bc dk0 dv dc bz hr => by
  rw [← hzz] at hz9;have hrt := hp.right ⟨hb.1, hb.2.1, hz9⟩ hk;exact vlay_is wz d s g dk st r F (h.below (B1.trans (bz.mono B1.size))) G pl lvl (hroom.le (by omega)) _ hrt bk bv bc dk0 dv dc hr)
 have GPR : Hid (∀ dk1 st1 q, Laid dk st pl (bothN NL k NR) dk1 st1 q → Live st1 pr) := Hd (fun dk1 st1 q hl => hp.then hl);have MRG : Hid (∀ dk1 st1 q st2, Laid dk st pl (bothN NL k NR) dk1 st1 q → Given dk1 st1 pr st2 → AtI dk1 st2 fs (hh + 1) x.p { leaf := false, K := KA ++ KB, V := [], C := kP A ++ [q] ++ kP B } E) := Hd (fun dk1 st1 q st2 a1 a2 => merge_one hp hk.symm a1 a2 rfl rfl rfl rfl);have HPR := Hd hp2;have HUN : Hid (∀ q : Int, 2 ≤ q ∧ q < 640 → NB { leaf := false, K := KA ++ KB, V := [], C := kP A ++ [q] ++ kP B } 240) := Hd (fun q b => hU.nb1 hN q b)
 have HNG : Hid (∀ wz q a b c i1 i2 i3, NodR wz (setKid U KA.length q) a b c i1 i2 i3 → Calls Tryz.prog 117 #[.agg #[.bool x.lf, .slice a x.lk i1, .slice b x.lv i2, .slice c x.lc i3], .int .i64 (KA.length : Int)] wz fun e w' => NodBack wz.heap.size { leaf := false, K := KA ++ KB, V := [], C := kP A ++ [q] ++ kP B } e w' ∧ Below wz.heap.size wz w') := Hd (fun wz q a b c i1 i2 i3 hr => by
  obtain ⟨u1, u2, u3⟩ := hU.whole q;have := unhang_is (setKid U KA.length q) a b c i1 i2 i3 wz hr KA.length u2 u1 u3;rw [hU.hung q] at this
  have e : nodV (setKid U KA.length q) a b c i1 i2 i3 = .agg #[.bool x.lf, .slice a x.lk i1, .slice b x.lv i2, .slice c x.lc i3] := by
   unfold nodV setKid
   dsimp only
   rw [List.length_set, hX.lf, hX.lk, hX.lv, hX.lc]
  rw [e] at this;exact this)
 have HX := Hd hX;have HU : Hid (KA.length + 1 < U.C.length ∧ U.V = []) := Hd ⟨hsz.1, hU.v⟩;have ECB := Hd ec;have EKB := Hd ek;have CBL := Hd cbl;have LTJ : Hid ((KA.length : Int) < (x.lc : Int)) := Hd (by have := hX.lc; omega);obtain ⟨j, hj⟩ : ∃ j, KA.length = j := ⟨_, rfl⟩
 obtain ⟨M, hMM⟩ : ∃ M, bothN NL k NR = M := ⟨_, rfl⟩
 rw [hMM] at TG SZ SHR LAY GPR MRG;have hltk : (j : Int) < (x.lk : Int) := by have := hX.lk; omega
 have x1v := XU.out;have x2v := (cells7 XL.out).2.2.2.1;have x3v := (cells7 XR.out).2.2.2.1;have HV : Hid (x.val = .agg #[.int .i64 x.p, .int .i64 x.i, .bool x.fd, .bool x.lf, .slice (some ⟨kb, ko, none⟩) x.lk x.ck, .slice x.av x.lv x.cv, .slice (some ⟨cb, off, none⟩) x.lc x.cc]) := Hd (by unfold StepV.val; rw [ek, ec]);rw [hlf, hrf, HV.out];rw [hj] at KC0 SHR HNG HU LTJ ⊢;have KC := Hd KC0;clear h G hX hp hU hN h1 h2 hz hk hNL hNR hroom l1 l2 l3 l4 hw lvl lvr lne hlf hrf hb b1 b2 b3 b4 b5 b6 ek kbl kcell kbd ec zc cbl hp1 hp2 hA1 hB1 hsz x1 x2 x3 x4 z1 B1 hzz hMM hj KC0 x1v HV;unfold nodV at *
 go_enter Tryz.func88, Tryz.ntmps88;go_upto_region 3 with fail
 try rw [hw1]
 clear hw1 x2v x3v
 go_cut [12] (fun v wx => ∃ (bx : Nat) (bk bv bc : Option Addr) (dk0 dv dc : Nat), v = .pointer (some ⟨bx, 0, none⟩) ∧ Hid (Below w1.heap.size w1 wx) ∧ Hid (wx.heap[bx]? = some (.cells #[.bool M.leaf, .slice bk M.K.length dk0, .slice bv M.V.length dv, .slice bc M.C.length dc] 97)) ∧ Hid (NodR wx M bk bv bc dk0 dv dc) ∧ Hid (bx < wx.heap.size) ∧ Hid ((∀ y, bk = some y → w1.heap.size ≤ y.block) ∧ (∀ y, bv = some y → w1.heap.size ≤ y.block) ∧ ∀ y, bc = some y → w1.heap.size ≤ y.block))
 case first =>
  refine wp_region_held_drew (S := fun wz => Below w1.heap.size w1 wz) (by kernel_rfl) ((Below.refl _ w1).drew) (fun hS => ?_);refine Hu 0 23 hS ?_;simp only [SL];refine Hv 1 24 ?vm1x2 hS ?hm1x2 ?_
  case hm1x2 =>
   intro w9 s9;have cN3 := cl ((s9.block _ LL.out).trans XL.out) 3 rfl;have cN4 := cl ((s9.block _ LL.out).trans XL.out) 4 rfl;have cN5 := cl ((s9.block _ LL.out).trans XL.out) 5 rfl;have cN6 := cl ((s9.block _ LL.out).trans XL.out) 6 rfl;clear s9;go_simp;try (with_reducible rfl)
  simp only [SL];refine Hu 2 25 hS ?_;simp only [SL];refine Hu 3 26 hS ?_;simp only [SL];refine Hv 4 27 ?vm4x5 hS ?hm4x5 ?_
  case hm4x5 =>
   intro w9 s9;have cN4 := cl ((s9.block _ LU.out).trans XU.out) 4 rfl;clear s9;go_simp;try (with_reducible rfl)
  simp only [SL];refine Hu 5 28 hS ?_;simp only [SL];refine Hu 6 29 hS ?_;simp only [SL];refine Hv 7 30 ?vm7x8 hS ?hm7x8 ?_
  case hm7x8 =>
   intro w9 s9;have c7 := (s9.cell (p := ⟨kb, ko + j, none⟩) KC.out.1).trans KC.out.2;clear s9;go_simp;try (with_reducible rfl)
  simp only [SL];refine Hu 8 31 hS ?_;simp only [SL];refine Hv 9 32 ?vm9x10 hS ?hm9x10 ?_
  case hm9x10 =>
   intro w9 s9;have cN3 := cl ((s9.block _ LR.out).trans XR.out) 3 rfl;have cN4 := cl ((s9.block _ LR.out).trans XR.out) 4 rfl;have cN5 := cl ((s9.block _ LR.out).trans XR.out) 5 rfl;have cN6 := cl ((s9.block _ LR.out).trans XR.out) 6 rfl;clear s9;go_simp;try (with_reducible rfl)
  simp only [SL];refine Hk 10 11 (fun K HK => ?_) (fun K HK => ?_)
  ·go_simp
   go_wp2_with fail;refine (TG.out _ hS).mono ?_;rintro e wp ⟨⟨bk, bv, bc, dk0, dv, dc, rfl, hR, q1, q2, q3⟩, b7⟩;simp only [nodV];refine HK.out _ _ ?_ ?_
   ·exact hS.trans (b7.mono hS.size)
   clear HK K;try simp only [Act.put, SL]
   have hS9 := hS.trans (b7.mono hS.size);have LOQ : Hid ((∀ y, bk = some y → w1.heap.size ≤ y.block) ∧ (∀ y, bv = some y → w1.heap.size ≤ y.block) ∧ ∀ y, bc = some y → w1.heap.size ≤ y.block) := Hd ⟨fun y hy => Nat.le_trans hS.size (q1 y hy), fun y hy => Nat.le_trans hS.size (q2 y hy), fun y hy => Nat.le_trans hS.size (q3 y hy)⟩;have HR7 := Hd hR;clear hS;have hS := hS9;clear hS9 hR q1 q2 q3 b7;refine Hs 11 (fun K HK => ?_);go_simp;refine HK.out _ _ ?_ ?_
   ·exact hS.alloc hS.size _
   clear HK K;try simp only [Act.put, SL]
   have hsz0 : w1.heap.size ≤ wp.heap.size := hS.size;have hS9 : Below w1.heap.size w1 (wp.alloc (.cells #[.bool false, .slice none 0 0, .slice none 0 0, .slice none 0 0] 97)) := hS.alloc hS.size (.cells #[.bool false, .slice none 0 0, .slice none 0 0, .slice none 0 0] 97);clear hS;obtain ⟨wa, hwa⟩ : ∃ wa, wp.alloc (.cells #[.bool false, .slice none 0 0, .slice none 0 0, .slice none 0 0] 97) = wa := ⟨_, rfl⟩
   obtain ⟨bx, hbx⟩ : ∃ bx, wp.heap.size = bx := ⟨_, rfl⟩
   have HBX : Hid (wa.heap[bx]? = some (.cells #[.bool false, .slice none 0 0, .slice none 0 0, .slice none 0 0] 97)) := Hd (by rw [← hwa, ← hbx]; exact han wp _);have BXL : Hid (w1.heap.size ≤ bx) := Hd (by rw [← hbx]; exact hsz0);have BXR : Hid (bx < wa.heap.size) := Hd (by rw [← hwa, ← hbx]; simp)
   have HRA : Hid (RowsA wa M bk bv bc dk0 dv dc (fun k => k = bx)) := Hd (((RowsA.new (lo := 0) (Z := fun _ => False) HR7.out (fun _ _ => Nat.zero_le _) (fun _ _ => Nat.zero_le _) (fun _ _ => Nat.zero_le _) (fun _ hk => hk.elim)).grow (Z' := fun k => k = bx) (fun k hk => .inr (by rw [hk, ← hbx]; exact Nat.le_refl _))).below (show Below wp.heap.size wp wa from by rw [← hwa]; exact (Below.refl _ wp).alloc (Nat.le_refl _) _));clear HR7;rw [hwa] at hS9;rw [hwa, hbx];have hS := hS9;clear hS9 hwa hbx hsz0;obtain ⟨a0, a1, a2, a3⟩ := cells4 HBX.out;have f0 := ufb HBX.out 0;have f1 := ufb HBX.out 1
   have f2 := ufb HBX.out 2;have f3 := ufb HBX.out 3;refine Hs 12 (fun K HK => ?_);go_simp;refine HK.out _ _ ?_ ?_
   ·exact put4_below hS bx _ _ _ _ BXL.out
   clear HK K;try simp only [Act.put, SL]
   obtain ⟨wf, hwf⟩ : ∃ wf, ((((wa.setCell ⟨bx, 0, none⟩ (.bool M.leaf)).setCell ⟨bx, 1, none⟩ (.slice bk M.K.length dk0)).setCell ⟨bx, 2, none⟩ (.slice bv M.V.length dv)).setCell ⟨bx, 3, none⟩ (.slice bc M.C.length dc)) = wf := ⟨_, rfl⟩
   have HBf : Hid (Below w1.heap.size w1 wf) := Hd (hwf ▸ put4_below hS bx (.bool M.leaf) (.slice bk M.K.length dk0) (.slice bv M.V.length dv) (.slice bc M.C.length dc) BXL.out);have HXf : Hid (wf.heap[bx]? = some (.cells #[.bool M.leaf, .slice bk M.K.length dk0, .slice bv M.V.length dv, .slice bc M.C.length dc] 97)) := Hd (hwf ▸ put4_block HBX.out (.bool M.leaf) (.slice bk M.K.length dk0) (.slice bv M.V.length dv) (.slice bc M.C.length dc))
   have Ff : Frm (fun k => k = bx) wa wf := hwf ▸ put4_frm (Frm.refl _ wa) bx (.bool M.leaf) (.slice bk M.K.length dk0) (.slice bv M.V.length dv) (.slice bc M.C.length dc) (.inl rfl);have HRf := Hd (HRA.out.frm Ff (fun k hk => hk)).r;have BXf : Hid (bx < wf.heap.size) := Hd (Nat.lt_of_lt_of_le BXR.out Ff.size);rw [hwf];clear hwf hS HBX BXR HRA Ff a0 a1 a2 a3 f0 f1 f2 f3;refine wpAnyH_done (by kernel_rfl) ?_ _;go_wp2_with fail
   go_meet
   exact ⟨bx, bk, bv, bc, dk0, dv, dc, rfl, HBf, HXf, HRf, BXf, LOQ⟩
  ·go_simp
   refine HK.out _ _ ?_ ?_
   ·exact hS.alloc hS.size _
   clear HK K;try simp only [Act.put, SL]
   have hsz0 : w1.heap.size ≤ w1.heap.size := Nat.le_refl _;have hS9 : Below w1.heap.size w1 ((w1.alloc (.cells #[.bool false, .slice none 0 0, .slice none 0 0, .slice none 0 0] 97)).drew) := hS.alloc hS.size (.cells #[.bool false, .slice none 0 0, .slice none 0 0, .slice none 0 0] 97);clear hS;obtain ⟨wa, hwa⟩ : ∃ wa, (w1.alloc (.cells #[.bool false, .slice none 0 0, .slice none 0 0, .slice none 0 0] 97)).drew = wa := ⟨_, rfl⟩
   have HBX : Hid (wa.heap[w1.heap.size]? = some (.cells #[.bool false, .slice none 0 0, .slice none 0 0, .slice none 0 0] 97)) := Hd (by rw [← hwa]; exact han w1 _);have BXL : Hid (w1.heap.size ≤ w1.heap.size) := Hd (by exact hsz0);have BXR : Hid (w1.heap.size < wa.heap.size) := Hd (by rw [← hwa]; show w1.heap.size < (w1.alloc _).heap.size; simp);rw [hwa] at hS9;rw [hwa];have hS := hS9;clear hS9 hwa hsz0;refine Hs 10 (fun K HK => ?_);go_simp;go_wp2_with fail;refine (TG.out _ hS).mono ?_;rintro e wp ⟨⟨bk, bv, bc, dk0, dv, dc, rfl, hR, q1, q2, q3⟩, b7⟩;simp only [nodV]
   refine HK.out _ _ ?_ ?_
   ·exact hS.trans (b7.mono hS.size)
   clear HK K;try simp only [Act.put, SL]
   have hS9 := hS.trans (b7.mono hS.size);have LOQ : Hid ((∀ y, bk = some y → w1.heap.size ≤ y.block) ∧ (∀ y, bv = some y → w1.heap.size ≤ y.block) ∧ ∀ y, bc = some y → w1.heap.size ≤ y.block) := Hd ⟨fun y hy => Nat.le_trans hS.size (q1 y hy), fun y hy => Nat.le_trans hS.size (q2 y hy), fun y hy => Nat.le_trans hS.size (q3 y hy)⟩;have HRA : Hid (RowsA wp M bk bv bc dk0 dv dc (fun k => k = w1.heap.size)) := Hd (RowsA.new (lo := wa.heap.size) hR q1 q2 q3 (fun k hk => by subst hk; exact BXR.out));have HBX9 := Hd (kept HBX.out b7);clear HBX;have HBX := HBX9;clear HBX9
   have BXR9 : Hid (w1.heap.size < wp.heap.size) := Hd (Nat.lt_of_lt_of_le BXR.out b7.size);clear BXR;have BXR := BXR9;clear BXR9;obtain ⟨a0, a1, a2, a3⟩ := cells4 HBX.out;have f0 := ufb HBX.out 0;have f1 := ufb HBX.out 1;have f2 := ufb HBX.out 2;have f3 := ufb HBX.out 3;clear hS;have hS := hS9;clear hS9 hR q1 q2 q3 b7;refine Hs 12 (fun K HK => ?_);go_simp;refine HK.out _ _ ?_ ?_
   ·exact put4_below hS w1.heap.size _ _ _ _ BXL.out
   clear HK K;try simp only [Act.put, SL]
   obtain ⟨wf, hwf⟩ : ∃ wf, ((((wp.setCell ⟨w1.heap.size, 0, none⟩ (.bool M.leaf)).setCell ⟨w1.heap.size, 1, none⟩ (.slice bk M.K.length dk0)).setCell ⟨w1.heap.size, 2, none⟩ (.slice bv M.V.length dv)).setCell ⟨w1.heap.size, 3, none⟩ (.slice bc M.C.length dc)) = wf := ⟨_, rfl⟩
   have HBf : Hid (Below w1.heap.size w1 wf) := Hd (hwf ▸ put4_below hS w1.heap.size (.bool M.leaf) (.slice bk M.K.length dk0) (.slice bv M.V.length dv) (.slice bc M.C.length dc) BXL.out);have HXf : Hid (wf.heap[w1.heap.size]? = some (.cells #[.bool M.leaf, .slice bk M.K.length dk0, .slice bv M.V.length dv, .slice bc M.C.length dc] 97)) := Hd (hwf ▸ put4_block HBX.out (.bool M.leaf) (.slice bk M.K.length dk0) (.slice bv M.V.length dv) (.slice bc M.C.length dc))
   have Ff : Frm (fun k => k = w1.heap.size) wp wf := hwf ▸ put4_frm (Frm.refl _ wp) w1.heap.size (.bool M.leaf) (.slice bk M.K.length dk0) (.slice bv M.V.length dv) (.slice bc M.C.length dc) (.inl rfl);have HRf := Hd (HRA.out.frm Ff (fun k hk => hk)).r;have BXf : Hid (w1.heap.size < wf.heap.size) := Hd (Nat.lt_of_lt_of_le BXR.out Ff.size);rw [hwf];clear hwf hS HBX BXR HRA Ff a0 a1 a2 a3 f0 f1 f2 f3;refine wpAnyH_done (by kernel_rfl) ?_ _;go_wp2_with fail
   go_meet
   exact ⟨w1.heap.size, bk, bv, bc, dk0, dv, dc, rfl, HBf, HXf, HRf, BXf, LOQ⟩
 case rest =>
  obtain ⟨bx, bk, bv, bc, dk0, dv, dc, rfl, HBf, HXf, HRf, BXf, LOQ⟩ := hcut;obtain ⟨wf, hwf⟩ : ∃ wf, wf = wc := ⟨_, rfl⟩
  subst hwf;obtain ⟨a0, a1, a2, a3⟩ := cells4 HXf.out;go_wp2_with fail;refine (SZ.out _ _ _ _ _ _ _ HRf.out).mono ?_;rintro e wg ⟨rfl, bg⟩;have Bg : Hid (Below w1.heap.size w1 wg) := Hd (HBf.out.trans (bg.mono HBf.out.size));have HRg : Hid (NodR wg M bk bv bc dk0 dv dc) := Hd (HRf.out.below bg);clear a0 a1 a2 a3;obtain ⟨a0, a1, a2, a3⟩ := cells4 (kept HXf.out bg)
  have XUg : Hid (wg.heap[w.heap.size]? = some (.cells #[.int .i64 x.p, .int .i64 x.i, .bool x.fd, .bool x.lf, .slice (some ⟨kb, ko, none⟩) x.lk x.ck, .slice x.av x.lv x.cv, .slice (some ⟨cb, off, none⟩) x.lc x.cc] 99)) := Hd (kept XU.out Bg.out);have XLg : Hid (wg.heap[w.heap.size + 1]? = some (.cells #[.int .i64 pl, .int .i64 il, .bool fl, .bool lf, .slice la NL.K.length m1, .slice lb NL.V.length m2, .slice lc NL.C.length m3] 99)) := Hd (kept XL.out Bg.out)
  have XRg : Hid (wg.heap[w.heap.size + 2]? = some (.cells #[.int .i64 pr, .int .i64 ir, .bool fr, .bool lf, .slice ra NR.K.length n1, .slice rb NR.V.length n2, .slice rc NR.C.length n3] 99)) := Hd (kept XR.out Bg.out);have XZg : Hid (wg.heap[w.heap.size + 3]? = some (.cells #[.int .i64 0, .int .i64 0, .bool false, .bool false, .slice none 0 0, .slice none 0 0, .slice none 0 0] 99)) := Hd (kept XZ.out Bg.out);have S1g : Hid (w.heap.size + 4 ≤ wg.heap.size) := Hd (by have := Bg.out.size; have := Z1.out; omega);clear bg
  rcases Nat.lt_or_ge 240 z with hz9 | hz9
  ·have hz' : (240 : Int) < (z : Int) := by omega
   obtain ⟨d0, d1, d2, d3, d4, d5, d6⟩ := cells7 XUg.out;have l0 := (cells7 XLg.out).1;have p0 := (cells7 XRg.out).1;have SH := Hd (SHR.out hz9 wg bk bv bc dk0 dv dc Bg.out HRg.out);go_wp2_with fail;refine SH.out.mono ?_;rintro e w5 ⟨i', fd', N', bk', bv', bc', jk', jv', jc', dk', st', r', F', rfl, hr', hs⟩;have hXB := XBL.out
   have XZ5 := (hs.fr.block (w.heap.size + 3) (by have := S1g.out; omega) (fun hx => by
    rcases hx with hx | hx
    ·have := HLT.out _ hx; omega
    ·have := hXB _ hx; omega)).trans XZg.out
   have y : StepV := ⟨x.p, i', fd', N'.leaf, bk', N'.K.length, jk', bv', N'.V.length, jv', bc', N'.C.length, jc'⟩
   have Z := Hd (cells7 (put7_block XZ5 ⟨x.p, i', fd', N'.leaf, bk', N'.K.length, jk', bv', N'.V.length, jv', bc', N'.C.length, jc'⟩))
   have END : Hid (ShrOut w d s g dk st F x x.p fs (hh + 1) E 2 (fun r' => r' = r) (.returned (.tuple #[.agg #[.int .i64 x.p, .int .i64 i', .bool fd', .bool N'.leaf, .slice bk' N'.K.length jk', .slice bv' N'.V.length jv', .slice bc' N'.C.length jc'], .int .i64 0])) (put7 w5 (w.heap.size + 3) ⟨x.p, i', fd', N'.leaf, bk', N'.K.length, jk', bv', N'.V.length, jv', bc', N'.C.length, jc'⟩)) := Hd ⟨i', fd', N', bk', bv', bc', jk', jv', jc', dk', st', r', F', rfl, hr', hs.boxed (B01.out.trans (Bg.out.mono B01.out.size)) (by omega) (by have := S1g.out; omega) hXB HLT.out (put7_frm (Frm.refl _ w5) _ _ (.inl rfl))⟩
   have g0 := ufb XZ5 0;have g1 := ufb XZ5 1;have g2 := ufb XZ5 2;have g3 := ufb XZ5 3;have g4 := ufb XZ5 4;have g5 := ufb XZ5 5;have g6 := ufb XZ5 6;obtain ⟨i0, i1, i2, i3, i4, i5, i6⟩ := cells7 XZ5;unfold put7 at Z END;clear hs hr' XZ5 hXB y a0 a1 a2 a3 d0 d1 d2 d3 d4 d5 d6 l0 p0 SH;go_wp2_with fail
   exact bodyPost_ret (v := .tuple #[.agg #[.int .i64 x.p, .int .i64 i', .bool fd', .bool N'.leaf, .slice bk' N'.K.length jk', .slice bv' N'.V.length jv', .slice bc' N'.C.length jc'], .int .i64 0]) (by simp [results, Tryz.results88, go_sem, Z.out.1, Z.out.2.1, Z.out.2.2.1, Z.out.2.2.2.1, Z.out.2.2.2.2.1, Z.out.2.2.2.2.2.1, Z.out.2.2.2.2.2.2]) rfl END.out
  ·have hz' : ¬ (240 : Int) < (z : Int) := by omega
   have l0 := (cells7 XLg.out).1;have LY := Hd (LAY.out hz9 wg bk bv bc dk0 dv dc Bg.out (RowsA.new HRg.out LOQ.out.1 LOQ.out.2.1 LOQ.out.2.2 (fun k hk => by have := HLT.out k hk; have := Z1.out; omega)));go_wp2_with fail;refine LY.out.mono ?_;rintro e w5 ⟨q, dk1, st1, rfl, ⟨F1, t1, t2, t3⟩, hl, hrm⟩;have S15 : Hid (w.heap.size + 2 < w5.heap.size ∧ w.heap.size + 4 ≤ w5.heap.size) := Hd (by have := t2.size; have := S1g.out; exact ⟨by omega, by omega⟩)
   have nF : ∀ b, w.heap.size ≤ b → b < wg.heap.size → ¬ F1 b := fun b h0 h1 hx => by
    rcases t3 _ hx with h2 | h2
    ·have := HLT.out _ h2; omega
    ·omega
   have NF1 : Hid (¬ F1 w.heap.size ∧ ¬ F1 (w.heap.size + 1) ∧ ¬ F1 (w.heap.size + 2) ∧ ¬ F1 (w.heap.size + 3)) := Hd (by have := S1g.out; exact ⟨nF _ (by omega) (by omega), nF _ (by omega) (by omega), nF _ (by omega) (by omega), nF _ (by omega) (by omega)⟩);have nF0 : ∀ b, w.heap.size ≤ b → ¬ F b := fun b h0 hx => by have := HLT.out _ hx; omega
   have XU5 : Hid (w5.heap[w.heap.size]? = some (.cells #[.int .i64 x.p, .int .i64 x.i, .bool x.fd, .bool x.lf, .slice (some ⟨kb, ko, none⟩) x.lk x.ck, .slice x.av x.lv x.cv, .slice (some ⟨cb, off, none⟩) x.lc x.cc] 99)) := Hd ((t2.block _ (by have := S1g.out; omega) (nF0 _ (by omega))).trans XUg.out);have XR5 : Hid (w5.heap[w.heap.size + 2]? = some (.cells #[.int .i64 pr, .int .i64 ir, .bool fr, .bool lf, .slice ra NR.K.length n1, .slice rb NR.V.length n2, .slice rc NR.C.length n3] 99)) := Hd ((t2.block _ (by have := S1g.out; omega) (nF0 _ (by omega))).trans XRg.out)
   have XZ5 : Hid (w5.heap[w.heap.size + 3]? = some (.cells #[.int .i64 0, .int .i64 0, .bool false, .bool false, .slice none 0 0, .slice none 0 0, .slice none 0 0] 99)) := Hd ((t2.block _ (by have := S1g.out; omega) (nF0 _ (by omega))).trans XZg.out);have hpr := GPR.out _ _ _ hl;obtain ⟨gv1, gv2, gv3⟩ := given_of hl.tt.g pr hpr
   have hp64 : pr < 9223372036854775808 ∧ (hasB st1.h.used pr = true → 2 ≤ pr ∧ pr < 640) := by
    have := HPR.out;exact ⟨by omega, fun _ => this⟩
   have GV : Hid (Calls Tryz.prog 89 #[.pointer (some ⟨s, 0, none⟩), .int .i64 pr] w5.drew fun e w' => e = .returned (.int .i64 0) ∧ Frm F1 w5 w' ∧ w'.cell? ⟨g, 0, none⟩ = some (.pointer (some ⟨s, 0, none⟩)) ∧ TSPost w5 d s g dk1 (st1.give pr).1 r F1 w') := Hd (by
    have bd : Below w5.heap.size w5 w5.drew := (Below.refl _ w5).drew;obtain ⟨FD2, FS2, hi2, he2⟩ := t1.below bd;refine (give_is w5.drew s d st1 FS2 hi2.ds.sto pr hp64.1 hp64.2).mono fun e w' ⟨z1, z2, z3⟩ => ?_
    have hp := TSPost.ofDS hi2 he2 (DSPost.store hi2.ds z3 z2);have hfr : Frm F1 w5 w' := ((Frm.refl F1 w5).drew).trans (z3.mono (fun k hk => (he2 k).2 (.inr (.inl hk)))) (fun k hk => .inl hk);refine ⟨by rw [z1, gv2], hfr, ?_, TSPost.chain bd hp⟩;obtain ⟨F', ⟨_, _, hi3, _⟩, _⟩ := hp;exact (vis_cells hi3.v).1)
   have v0 : w5.drew.cell? ⟨g, 0, none⟩ = some (.pointer (some ⟨s, 0, none⟩)) := by
    obtain ⟨_, _, hi2, _⟩ := t1;exact (vis_cells hi2.v).1
   have ONE := Hd (MRG.out _ _ _ _ hl gv1);have TT5 := Hd (And.intro hl.tt (And.intro gv1.tt (And.intro hrm gv3)));have QB := Hd (And.intro hl.lo hl.hi);have FF5 : Hid (Frm F w w5) := Hd ((Frm.of_below (B01.out.trans (Bg.out.mono B01.out.size)) : Frm F w wg).trans t2 (fun k hk => .inl hk));have FN5 : Hid (∀ k, F1 k → F k ∨ wg.heap.size ≤ k) := Hd t3;clear hl hpr gv1 gv2 gv3 hp64 t1 t2 t3 hrm nF nF0 a0 a1 a2 a3 l0;go_upto_region 9 with fail
   refine wp_region_held_drew (S := fun wz => Frm F1 w5 wz ∧ wz.cell? ⟨g, 0, none⟩ = some (.pointer (some ⟨s, 0, none⟩))) (by kernel_rfl) ⟨(Frm.refl F1 w5).drew, v0⟩ (fun hS => ?_);refine Hu 0 60 hS ?_;simp only [SL];refine Hu 1 61 hS ?_;simp only [SL];refine Hu 2 62 hS ?_;simp only [SL];refine Hv 3 63 ?vn33x4 hS ?hn33x4 ?_
   case hn33x4 =>
    intro w9 s9;have c := s9.2;clear s9;go_simp;try (with_reducible rfl)
   simp only [SL];refine Hu 4 64 hS ?_;simp only [SL];refine Hv 5 65 ?vn35x6 hS ?hn35x6 ?_
   case hn35x6 =>
    intro w9 s9;have c := cl ((s9.1.block _ S15.out.1 NF1.out.2.2.1).trans XR5.out) 0 rfl;clear s9;go_simp;try (with_reducible rfl)
   simp only [SL];refine Hs 6 (fun K HK => ?_);go_simp;go_wp2_with fail;refine GV.out.mono ?_;rintro e w6 ⟨rfl, h3⟩;have H3 := Hd h3;refine HK.out _ _ ?_ ?_
   ·exact ⟨Frm.trans (F := F1) (Frm.refl F1 w5) h3.1 (fun _ hx => .inl hx), h3.2.1⟩
   clear HK K;try simp only [Act.put, SL]
   clear hS;have hS := And.intro h3.1 h3.2.1;clear h3;refine Hu 7 14 hS ?_;simp only [SL];refine wpAnyH_done (by kernel_rfl) ?_ _;clear hS;obtain ⟨F2, u1, u2, u3⟩ := H3.out.2.2;have f56 : Frm F1 w5 w6 := H3.out.1
   have X6 : StepA w6 x U (fun k => F k ∨ F1 k ∨ F2 k) := ((HX.out.grow (Z' := fun k => F k ∨ F1 k ∨ F2 k) (fun k hk => by
    rcases hk with hk | hk | hk
    ·exact .inl hk
    ·exact (FN5.out k hk).imp id (fun h1 => by have := S1g.out; omega)
    ·rcases u3 k hk with h1 | h1
     ·exact (FN5.out k h1).imp id (fun h1 => by have := S1g.out; omega)
     ·exact .inr (by have := S15.out; omega))).frm FF5.out (fun k hk => .inl hk)).frm f56 (fun k hk => .inr (.inl hk))
   obtain ⟨cb', off', e1, zc, zl, ⟨c', e2⟩, e3, hry⟩ := merge_ready (q1 := q) (i := j) X6 HU.out.2 (by have := HU.out.1; omega) QB.out;rw [ECB.out] at e1;injection e1 with e1;injection e1 with ea eb;subst ea eb;have XU6 : Hid (w6.heap[w.heap.size]? = some (.cells #[.int .i64 x.p, .int .i64 x.i, .bool x.fd, .bool x.lf, .slice (some ⟨kb, ko, none⟩) x.lk x.ck, .slice x.av x.lv x.cv, .slice (some ⟨cb, off, none⟩) x.lc x.cc] 99)) := Hd ((f56.block _ (by have := S15.out; omega) NF1.out.1).trans XU5.out)
   have XZ6 : Hid (w6.heap[w.heap.size + 3]? = some (.cells #[.int .i64 0, .int .i64 0, .bool false, .bool false, .slice none 0 0, .slice none 0 0, .slice none 0 0] 99)) := Hd ((f56.block _ (by have := S15.out; omega) NF1.out.2.2.2).trans XZ5.out)
   have nb2 : ∀ b, w.heap.size ≤ b → b < w.heap.size + 4 → ¬ F2 b := fun b h0 h1 hx => by
    rcases u3 _ hx with h2 | h2
    ·rcases FN5.out _ h2 with h2 | h2
     ·have := HLT.out _ h2; omega
     ·have := S1g.out; omega
    ·have := S15.out; omega
   have cbl := CBL.out;have NF2 : Hid (¬ F2 w.heap.size ∧ ¬ F2 (w.heap.size + 3) ∧ ¬ F2 cb) := Hd ⟨nb2 _ (by omega) (by omega), nb2 _ (by omega) (by omega), fun hx => zc (.inr (.inr hx))⟩;have S16 : Hid (w.heap.size + 4 ≤ w6.heap.size) := Hd (by have := S15.out; have := f56.size; omega);have FF6 : Hid (Frm F w w6) := Hd (FF5.out.trans f56 (fun k hk => (FN5.out k hk).imp id (fun h1 => by have := S1g.out; omega)))
   have FN6 : Hid (∀ k, F2 k → F k ∨ w.heap.size ≤ k) := Hd (fun k hk => by
    rcases u3 k hk with h1 | h1
    ·exact (FN5.out k h1).imp id (fun h2 => by have := S1g.out; omega)
    ·exact .inr (by have := S15.out; omega))
   have TS6 := Hd u1;have RY := Hd hry;obtain ⟨d0, d1, d2, d3, d4, d5, d6⟩ := cells7 XU6.out;have ltj := LTJ.out;clear u1 u2 u3 f56 X6 zc zl hry nb2 cbl v0;go_upto_region 13 with fail
   obtain ⟨w7, hw7⟩ : ∃ w7, w6.setCell ⟨cb, off + j, none⟩ (.int .i64 q) = w7 := ⟨_, rfl⟩
   obtain ⟨f67, r7⟩ := RY.out w7 hw7;rw [hw7];have HG := Hd (HNG.out w7 q _ _ _ _ _ _ r7.r);have F67 := Hd f67;have XU7 : Hid (w7.heap[w.heap.size]? = some (.cells #[.int .i64 x.p, .int .i64 x.i, .bool x.fd, .bool x.lf, .slice (some ⟨kb, ko, none⟩) x.lk x.ck, .slice x.av x.lv x.cv, .slice (some ⟨cb, off, none⟩) x.lc x.cc] 99)) := Hd ((f67.block _ (by have := S16.out; omega) (by have := CBL.out; show ¬ w.heap.size = cb; omega)).trans XU6.out)
   have XZ7 : Hid (w7.heap[w.heap.size + 3]? = some (.cells #[.int .i64 0, .int .i64 0, .bool false, .bool false, .slice none 0 0, .slice none 0 0, .slice none 0 0] 99)) := Hd ((f67.block _ (by have := S16.out; omega) (by have := CBL.out; show ¬ w.heap.size + 3 = cb; omega)).trans XZ6.out);have S17 : Hid (w.heap.size + 4 ≤ w7.heap.size ∧ w6.heap.size ≤ w7.heap.size) := Hd (by have := S16.out; have := f67.size; exact ⟨by omega, by omega⟩);clear d0 d1 d2 d3 d4 d5 d6 e2 e3 hw7 f67 r7 RY;obtain ⟨d0, d1, d2, d3, d4, d5, d6⟩ := cells7 XU7.out;rw [ECB.out, EKB.out] at HG;go_wp2_with fail
   refine HG.out.mono ?_;rintro e w8 ⟨⟨bk', bv', bc', jk', jv', jc', rfl, hRN, r1, r2, r3⟩, b8⟩;obtain ⟨N', hN'⟩ : ∃ N', ({ leaf := false, K := KA ++ KB, V := [], C := kP A ++ [q] ++ kP B } : Nod) = N' := ⟨_, rfl⟩
   have hV' : N'.V = [] := by rw [← hN']
   have HNB : Hid (NB N' 240) := Hd (by rw [← hN']; exact HUN.out q QB.out);have HAT : Hid (AtI dk1 (st1.give pr).1 fs (hh + 1) x.p N' E) := Hd (by rw [← hN']; exact ONE.out);rw [hN'] at hRN ⊢;have X8 := kept XU7.out b8;have XZ8 := kept XZ7.out b8;have k3 := ufb X8 3;have k4 := ufb X8 4;have k5 := ufb X8 5;have k6 := ufb X8 6;have HX8 := Hd X8;have HZ8 := Hd XZ8;have HRN := Hd hRN;have HR3 := Hd (And.intro r1 (And.intro r2 r3));have HB8 := Hd b8;have HV' := Hd hV';clear d0 d1 d2 d3 d4 d5 d6 XZ8 hRN r1 r2 r3 b8 hN' HG hV';obtain ⟨d0, d1, d2, d3, d4, d5, d6⟩ := cells7 X8;clear X8;simp only [nodV]
   go_upto_region 14 with fail
   obtain ⟨wa9, hw9⟩ : ∃ wa9, (((w8.setCell ⟨w.heap.size, 3, none⟩ (.bool N'.leaf)).setCell ⟨w.heap.size, 4, none⟩ (.slice bk' N'.K.length jk')).setCell ⟨w.heap.size, 5, none⟩ (.slice bv' N'.V.length jv')).setCell ⟨w.heap.size, 6, none⟩ (.slice bc' N'.C.length jc') = wa9 := ⟨_, rfl⟩
   have F89 : Frm (fun k => k = w.heap.size) w8 wa9 := hw9 ▸ putN_frm (Frm.refl _ w8) w.heap.size (.bool N'.leaf) (.slice bk' N'.K.length jk') (.slice bv' N'.V.length jv') (.slice bc' N'.C.length jc') (.inl rfl);have X9 : wa9.heap[w.heap.size]? = some (.cells #[.int .i64 x.p, .int .i64 x.i, .bool x.fd, .bool N'.leaf, .slice bk' N'.K.length jk', .slice bv' N'.V.length jv', .slice bc' N'.C.length jc'] 99) := hw9 ▸ putN_block HX8.out (.bool N'.leaf) (.slice bk' N'.K.length jk') (.slice bv' N'.V.length jv') (.slice bc' N'.C.length jc')
   have XZ9 : wa9.heap[w.heap.size + 3]? = some (.cells #[.int .i64 0, .int .i64 0, .bool false, .bool false, .slice none 0 0, .slice none 0 0, .slice none 0 0] 99) := (F89.block _ (by have := S17.out; have := HB8.out.size; omega) (by show ¬ w.heap.size + 3 = w.heap.size; omega)).trans HZ8.out
   have Fe : Frm (fun k => (k = cb ∨ k = w.heap.size) ∨ k = w.heap.size + 3) w6 (put7 wa9 (w.heap.size + 3) ⟨x.p, x.i, x.fd, N'.leaf, bk', N'.K.length, jk', bv', N'.V.length, jv', bc', N'.C.length, jc'⟩) := put7_frm (((F67.out.mono (fun k hk => (.inl (.inl hk) : (k = cb ∨ k = w.heap.size) ∨ k = w.heap.size + 3))).trans (G := fun _ => False) (Frm.of_below HB8.out) (fun _ hx => hx.elim)).trans F89 (fun k hk => .inl (.inl (.inr hk)))) _ _ (.inl (.inr rfl));have Z := Hd (cells7 (put7_block XZ9 ⟨x.p, x.i, x.fd, N'.leaf, bk', N'.K.length, jk', bv', N'.V.length, jv', bc', N'.C.length, jc'⟩))
   have END : Hid (ShrOut w d s g dk st F x x.p fs (hh + 1) E 2 (fun r' => r' = r) (.returned (.tuple #[.agg #[.int .i64 x.p, .int .i64 x.i, .bool x.fd, .bool N'.leaf, .slice bk' N'.K.length jk', .slice bv' N'.V.length jv', .slice bc' N'.C.length jc'], .int .i64 0])) (put7 wa9 (w.heap.size + 3) ⟨x.p, x.i, x.fd, N'.leaf, bk', N'.K.length, jk', bv', N'.V.length, jv', bc', N'.C.length, jc'⟩)) := Hd (by
    refine ⟨x.i, x.fd, N', bk', bv', bc', jk', jv', jc', dk1, (st1.give pr).1, r, F2, rfl, rfl, ?_⟩;have lt2 : ∀ k, F2 k → k < w6.heap.size := TS6.out.lt;have n2 := NF2.out;have s7 := S17.out
    have r8 : RowsA w8 N' bk' bv' bc' jk' jv' jc' (fun k => F2 k ∨ k = w.heap.size ∨ k = w.heap.size + 3) := RowsA.new (lo := w7.heap.size) HRN.out HR3.out.1 HR3.out.2.1 HR3.out.2.2 (fun k hk => by
     rcases hk with hk | hk | hk
     ·have := lt2 k hk; omega
     ·omega
     ·omega)
    have r9 := (r8.frm F89 (fun k hk => .inr (.inl hk))).frm (put7_frm (F := fun k => k = w.heap.size + 3) (Frm.refl _ wa9) (w.heap.size + 3) ⟨x.p, x.i, x.fd, N'.leaf, bk', N'.K.length, jk', bv', N'.V.length, jv', bc', N'.C.length, jc'⟩ (.inl rfl)) (fun k hk => .inr (.inr hk))
    refine { ts := TS6.out.frm Fe (fun k hk hx => ?_), fr := (FF6.out.mono (fun _ hk => .inl hk)).trans Fe (fun k hk => ?_), fn := FN6.out, rows := r9.mono (fun k hk => .inl hk), nv := HV'.out, ka := fun y hy => .inr (by have := HR3.out.1 y hy; omega), kc := fun y hy => .inr (by have := HR3.out.2.2 y hy; omega), at_ := HAT.out, nb := HNB.out, tt := TT5.out.1.trans TT5.out.2.1, rm := fun k hk => TT5.out.2.2.2 k (TT5.out.2.2.1 k (hk.le (by omega))) }
    ·rcases hx with (hx | hx) | hx
     ·exact n2.2.2 (hx ▸ hk)
     ·exact n2.1 (hx ▸ hk)
     ·exact n2.2.1 (hx ▸ hk)
    ·rcases hk with (hk | hk) | hk
     ·exact .inl (.inr (.inr ⟨_, ECB.out, hk.symm⟩))
     ·exact .inr (by omega)
     ·exact .inr (by omega))
   have g0 := ufb XZ9 0;have g1 := ufb XZ9 1;have g2 := ufb XZ9 2;have g3 := ufb XZ9 3;have g4 := ufb XZ9 4;have g5 := ufb XZ9 5;have g6 := ufb XZ9 6;rw [hw9];clear hw9 F89 Fe d0 d1 d2 d3 d4 d5 d6 k3 k4 k5 k6;obtain ⟨i0, i1, i2, i3, i4, i5, i6⟩ := cells7 XZ9;obtain ⟨d0, d1, d2, d3, d4, d5, d6⟩ := cells7 X9;unfold put7 at Z END;clear X9 XZ9;go_wp2_with fail
   exact bodyPost_ret (v := .tuple #[.agg #[.int .i64 x.p, .int .i64 x.i, .bool x.fd, .bool N'.leaf, .slice bk' N'.K.length jk', .slice bv' N'.V.length jv', .slice bc' N'.C.length jc'], .int .i64 0]) (by simp [results, Tryz.results88, go_sem, Z.out.1, Z.out.2.1, Z.out.2.2.1, Z.out.2.2.2.1, Z.out.2.2.2.2.1, Z.out.2.2.2.2.2.1, Z.out.2.2.2.2.2.2]) rfl END.out
theorem alloc3 (w : World) (a b c : Obj) : (((w.alloc a).alloc b).alloc c).heap[w.heap.size]? = some a ∧ (((w.alloc a).alloc b).alloc c).heap[w.heap.size + 1]? = some b ∧ (((w.alloc a).alloc b).alloc c).heap[w.heap.size + 2]? = some c ∧ (((w.alloc a).alloc b).alloc c).heap.size = w.heap.size + 3 ∧ Below w.heap.size w (((w.alloc a).alloc b).alloc c) := by
 have s1 : (w.alloc a).heap.size = w.heap.size + 1 := by simp
 have s2 : ((w.alloc a).alloc b).heap.size = w.heap.size + 2 := by simp
 refine ⟨?_, ?_, ?_, by simp, (((Below.refl _ w).alloc (Nat.le_refl _) a).alloc (by omega) b).alloc (by omega) c⟩
 ·exact (hao _ _ (by omega)).trans ((hao _ _ (by omega)).trans (han w a))
 ·have := han (w.alloc a) b
  rw [s1] at this;exact (hao _ _ (by omega)).trans this
 ·have := han ((w.alloc a).alloc b) c
  rw [s2] at this;exact this
theorem ShrS.boxedF {w wg w5 we : World} {d s g : Nat} {dk dk' : DkS} {st st' : ShS} {F F' : Nat → Prop} {x : StepV} {p : Int} {fs : List Frame} {h m r' b : Nat} {E : List Ent} {N : Nod} {bk bv bc : Option Addr} {jk jv jc : Nat}
  (hs : ShrS wg d s g dk st F x p fs h E m w5 N bk bv bc jk jv jc dk' st' r' F') (hb : Frm F w wg) (h0 : w.heap.size ≤ b) (h1 : b < wg.heap.size) (hX : ∀ k, XB x k → k < w.heap.size) (hF : ∀ k, F k → k < w.heap.size) (hf : Frm (fun k => k = b) w5 we) : ShrS w d s g dk st F x p fs h E m we N bk bv bc jk jv jc dk' st' r' F' := by
 have nb : ¬ F' b := fun hx => by
  rcases hs.fn _ hx with h2 | h2
  ·have := hF _ h2; omega
  ·omega
 have nk : ∀ y : Addr, (XB x y.block ∨ wg.heap.size ≤ y.block) → ¬ y.block = b := fun y hy e => by
  rcases hy with h2 | h2
  ·have := hX _ h2; omega
  ·omega
 exact { hs with
  ts := hs.ts.frm hf (fun k hk e => nb (e ▸ hk))
  fr := ((hb.mono (fun k hk => (.inl hk : F k ∨ XB x k))).trans hs.fr (fun k hk => .inl hk)).trans hf (fun k hk => .inr (by subst hk; exact h0))
  fn := fun k hk => (hs.fn k hk).imp id (fun h2 => Nat.le_trans hb.size h2)
  rows := hs.rows.frm2 hf hs.nv (fun y hy => nk y (hs.ka y hy)) (fun y hy => nk y (hs.kc y hy))
  ka := fun y hy => (hs.ka y hy).imp id (fun h2 => Nat.le_trans hb.size h2)
  kc := fun y hy => (hs.kc y hy).imp id (fun h2 => Nat.le_trans hb.size h2) }
theorem big_keys {N : Nod} (hw : wholeB N = true) (hz : 80 ≤ sizeN N) : N.K ≠ [] := by
 intro e
 cases hl : N.leaf with
 | true =>
  have h1 := (wholeB_leaf hl).1 hw;rw [e] at h1;have hv : N.V = [] := List.length_eq_zero_iff.1 (by have := h1.1; have := h1.2; simp only [List.length_nil] at *; omega);unfold sizeN at hz;rw [hl, e, hv] at hz;simp [bytesV] at hz
 | false =>
  have h1 := (wholeB_branch hl).1 hw;unfold sizeN at hz;rw [hl, e] at hz;rw [e] at h1;have := h1.1;simp only [List.length_nil, Bool.false_eq_true, if_false] at *;omega
theorem AtI.frame {dk : DkS} {st : ShS} {f : Frame} {fs : List Frame} {h : Nat} {p : Int} {N : Nod} {E : List Ent} (ha : AtI dk st (f :: fs) h p N E) : FrameOk (Rn dk) h f := by
 obtain ⟨FL, FR, PC, F, P, ⟨h1, _⟩, _⟩ := ha;exact h1
theorem laid_up {dk dk' : DkS} {st st' : ShS} {f : Frame} {fs : List Frame} {h : Nat} {p q : Int} {N : Nod} {E : List Ent} (ha : AtI dk st (f :: fs) h p N E) (hk : N.K ≠ []) (hl : Laid dk st p N dk' st' q) :
  AtI dk' st' fs (h + 1) f.page (setKid f.N f.KA.length q) E ∧ NB (setKid f.N f.KA.length q) 240 := by
 obtain ⟨QM, u1, u2⟩ := lay_one ha hk hl;have hf := ha.frame
 rcases u2 with ⟨q', _, hQ, h1, _⟩ | ⟨_, _, e, _⟩
 ·obtain ⟨_, _, h3⟩ := up_nb u1 hl.tt.g (by simp)
  have e : upN f [] (kP QM) = setKid f.N f.KA.length q := by rw [up_one hf, hQ, h1]; rfl
  rw [e] at h3;refine ⟨h3, ?_⟩;have hn := NB.of_right hf.r;refine ⟨fun v hv => hn.1 v hv, fun c hc => ?_, ?_⟩
  ·rcases List.mem_or_eq_of_mem_set hc with hc | rfl
   ·exact hn.2.1 c hc
   ·exact ⟨hl.lo, hl.hi⟩
  ·have := hn.2.2
   unfold sizeN setKid at *
   dsimp only at *
   rw [List.length_set];exact this
 ·cases e
theorem Frm.cell0 {G : Nat → Prop} {w w' : World} (h : Frm G w w') {p : Addr} (hb : p.block < w.heap.size) (hn : ¬ G p.block) : w'.cell? p = w.cell? p := by
 unfold World.cell?;rw [h.block p.block hb hn]
theorem vshrink_lay (w : World) (d s g : Nat) (dk : DkS) (st : ShS) (r : Nat) (F : Nat → Prop) (h : TS w d s g dk st r F) (G : Good dk st) (x : StepV) (f : Frame) (fs : List Frame) (hX : StepA w x f.N F) (hxp : x.p = f.page) (hxi : x.i = (f.KA.length : Int)) (hh : Nat) (p : Int) (N : Nod) (E : List Ent) (ha : AtI dk st (f :: fs) hh p N E) (hb : NB N 240) (hz : 80 ≤ sizeN N) (ki : Int) (kf : Bool) (ak av ac : Option Addr) (ck cv cc : Nat) (hN : RowsA w N ak av ac ck cv cc F) (dp : Int) (hroom : Room dk st 2) (hdp : dp ≤ 10) (hr : r < 640) :
  Calls Tryz.prog 50 #[.pointer (some ⟨g, 0, none⟩), x.val, .agg #[.int .i64 p, .int .i64 ki, .bool kf, .bool N.leaf, .slice ak N.K.length ck, .slice av N.V.length cv, .slice ac N.C.length cc], .int .i64 dp] w (ShrOut w d s g dk st F x x.p fs (hh + 1) E 2 (fun r' => r' ≤ r + 1)) := by
 have hk := big_keys ha.whole hz;have hrt := ha.right hb hk;have hf := ha.frame;have hlive := ha.live;have hw := ha.whole;obtain ⟨c, hc⟩ := hf.c
 have hcl : f.KA.length < f.N.C.length ∧ f.N.C.length = f.KA.length + f.KB.length + 1 := by
  rw [hc]; simp only [List.length_append, kP_length, List.length_singleton, hf.a, hf.b]; omega
 have hkk : 0 < f.KA.length + f.KB.length := by
  have := List.length_pos_iff.2 hf.k0;rw [hf.k, List.length_append] at this;exact this
 obtain ⟨cb, off, ec, zc, cbl, _⟩ := merge_ready (q1 := 2) (i := f.KA.length) hX hf.v hcl.1 (by omega);have HLT := Hd h.lt
 have XBL : Hid (∀ k, XB x k → k < w.heap.size) := Hd (fun k hk => by
  rcases hk with ⟨y, hy, rfl⟩ | ⟨y, hy, rfl⟩
  ·exact (hX.uk y hy).1
  ·exact (hX.uc y hy).1)
 obtain ⟨j, hj⟩ : ∃ j, f.KA.length = j := ⟨_, rfl⟩
 obtain ⟨w1, hw1⟩ : ∃ w1, ((w.alloc (.cells #[.int .i64 x.p, .int .i64 (j : Int), .bool x.fd, .bool x.lf, .slice x.ak x.lk x.ck, .slice x.av x.lv x.cv, .slice (some ⟨cb, off, none⟩) x.lc x.cc] 99)).alloc (.cells #[.int .i64 p, .int .i64 ki, .bool kf, .bool N.leaf, .slice ak N.K.length ck, .slice av N.V.length cv, .slice ac N.C.length cc] 99)).alloc (.cells #[.int .i64 0, .int .i64 0, .bool false, .bool false, .slice none 0 0, .slice none 0 0, .slice none 0 0] 99) = w1 := ⟨_, rfl⟩
 obtain ⟨x1, x2, x3, z1, B1⟩ := alloc3 w (.cells #[.int .i64 x.p, .int .i64 (j : Int), .bool x.fd, .bool x.lf, .slice x.ak x.lk x.ck, .slice x.av x.lv x.cv, .slice (some ⟨cb, off, none⟩) x.lc x.cc] 99) (.cells #[.int .i64 p, .int .i64 ki, .bool kf, .bool N.leaf, .slice ak N.K.length ck, .slice av N.V.length cv, .slice ac N.C.length cc] 99) (.cells #[.int .i64 0, .int .i64 0, .bool false, .bool false, .slice none 0 0, .slice none 0 0, .slice none 0 0] 99);rw [hw1] at x1 x2 x3 z1 B1;have XU := Hd x1;have XK := Hd x2;have XZ := Hd x3;have Z1 := Hd z1;have B01 := Hd B1
 have HV : Hid (x.val = .agg #[.int .i64 x.p, .int .i64 (j : Int), .bool x.fd, .bool x.lf, .slice x.ak x.lk x.ck, .slice x.av x.lv x.cv, .slice (some ⟨cb, off, none⟩) x.lc x.cc]) := Hd (by unfold StepV.val; rw [ec, hxi, hj]);obtain ⟨z, hzz⟩ : ∃ z, sizeN N = z := ⟨_, rfl⟩
 have SZ := Hd (size_is N ak av ac ck cv cc w1 (hN.r.below B1) z (Hd hzz) hw)
 have LY : Hid (∀ wz, Below w1.heap.size w1 wz → Calls Tryz.prog 87 #[.pointer (some ⟨g, 0, none⟩), .int .i64 p, nodV N ak av ac ck cv cc] wz (PutOn wz d s g dk st r F (Laid dk st p N) 1)) := Hd (fun wz bz => by
  have b0 := B1.trans (bz.mono B1.size);exact vlay_is wz d s g dk st r F (h.below b0) G p hlive (hroom.le (by omega)) N hrt ak av ac ck cv cc (hN.below b0))
 have LU : Hid (∀ dk' st' q, Laid dk st p N dk' st' q → AtI dk' st' fs (hh + 1) x.p (setKid f.N j q) E ∧ NB (setKid f.N j q) 240) := Hd (fun dk' st' q hl => by rw [hxp, ← hj]; exact laid_up ha hk hl);have HX := Hd hX;have HFV := Hd hf.v;have HCL : Hid (j < f.N.C.length ∧ x.lc = f.N.C.length) := Hd ⟨by rw [← hj]; exact hcl.1, hX.lc⟩
 have HLN : Hid (∀ q, (setKid f.N j q).leaf = x.lf ∧ (setKid f.N j q).K.length = x.lk ∧ (setKid f.N j q).V.length = x.lv ∧ (setKid f.N j q).C.length = x.lc) := Hd (fun q => ⟨hX.lf.symm, hX.lk.symm, hX.lv.symm, by unfold setKid; dsimp only; rw [List.length_set, hX.lc]⟩);have EC := Hd ec;have EI : Hid (x.i = (j : Int)) := Hd (by rw [hxi, hj]);have CBL := Hd cbl;have ltj : (j : Int) < (x.lc : Int) := by have := HCL.out.1; have := HCL.out.2; omega
 have hz' : (80 : Int) ≤ (z : Int) := by omega
 rw [HV.out];clear h G hX hxp hxi ha hb hz hN hroom hdp hr hk hrt hf hlive hw hc hcl hkk ec zc cbl hj x1 x2 x3 z1 B1 HV hzz;unfold nodV at *;obtain ⟨b0, b1, b2, b3, b4, b5, b6⟩ := cells7 XK.out;go_enter Tryz.func50, Tryz.ntmps50;go_wp2_with fail;refine SZ.out.mono ?_;rintro e wg ⟨rfl, bg⟩;have Bg := Hd bg;have LYg := Hd (LY.out wg bg);clear b0 b1 b2 b3 b4 b5 b6;obtain ⟨b0, b1, b2, b3, b4, b5, b6⟩ := cells7 (kept XK.out bg);clear bg;go_wp2_with fail;refine LYg.out.mono ?_;rintro e w5 ⟨q, dk1, st1, rfl, ⟨F1, t1, t2, t3⟩, hl, hrm⟩
 have S5 : Hid (w.heap.size + 3 ≤ wg.heap.size ∧ wg.heap.size ≤ w5.heap.size) := Hd ⟨by have := Bg.out.size; have := Z1.out; omega, t2.size⟩;have XU5 := (t2.block w.heap.size (by have := S5.out; omega) (fun hx => by have := HLT.out _ hx; omega)).trans (kept XU.out Bg.out);have XZ5 := (t2.block (w.heap.size + 2) (by have := S5.out; omega) (fun hx => by have := HLT.out _ hx; omega)).trans (kept XZ.out Bg.out);have f05 : Frm F w w5 := (Frm.of_below (B01.out.trans (Bg.out.mono B01.out.size)) : Frm F w wg).trans t2 (fun k hk => .inl hk)
 have X5 : StepA w5 x f.N (fun k => F k ∨ F1 k ∨ k = w.heap.size ∨ k = w.heap.size + 2) := (HX.out.grow (fun k hk => by
  rcases hk with hk | hk | hk | hk
  ·exact .inl hk
  ·exact (t3 k hk).imp id (fun h1 => by have := S5.out; omega)
  ·exact .inr (by omega)
  ·exact .inr (by omega))).frm f05 (fun k hk => .inl hk)
 obtain ⟨cb', off', e1, zc, zl, ⟨c', e2⟩, e3, hry⟩ := merge_ready (q1 := q) (i := j) X5 HFV.out HCL.out.1 ⟨hl.lo, hl.hi⟩;rw [EC.out] at e1;injection e1 with e1;injection e1 with ea eb;subst ea eb;have RY := Hd hry;have ONE := Hd (LU.out _ _ _ hl);have TG := Hd (And.intro hl.tt hrm);have T1 := Hd t1;have F05 := Hd f05;have FN : Hid (∀ k, F1 k → F k ∨ wg.heap.size ≤ k) := Hd t3;have HX5 := Hd XU5;have HZ5 := Hd XZ5;have ZC : Hid (¬ F1 cb) := Hd (fun hx => zc (.inr (.inl hx)));clear b0 b1 b2 b3 b4 b5 b6 hl hrm t1 t2 t3 f05 X5 hry XZ5 zc zl;obtain ⟨d0, d1, d2, d3, d4, d5, d6⟩ := cells7 XU5
 clear XU5;go_upto_region 4 with fail
 obtain ⟨w6, hw6⟩ : ∃ w6, w5.setCell ⟨cb, off + j, none⟩ (.int .i64 q) = w6 := ⟨_, rfl⟩
 obtain ⟨f6, r6⟩ := RY.out w6 hw6;have XU6 := (f6.block w.heap.size (by have := S5.out; omega) (by have := CBL.out; show ¬ w.heap.size = cb; omega)).trans HX5.out;have XZ6 := (f6.block (w.heap.size + 2) (by have := S5.out; omega) (by have := CBL.out; show ¬ w.heap.size + 2 = cb; omega)).trans HZ5.out;have Z := Hd (cells7 (put7_block XZ6 x));have Fe : Frm (fun k => k = cb ∨ k = w.heap.size + 2) w5 (put7 w6 (w.heap.size + 2) x) := put7_frm (f6.mono (fun k hk => .inl hk)) _ _ (.inl (.inr rfl))
 have F6e : Frm (fun k => k = w.heap.size + 2) w6 (put7 w6 (w.heap.size + 2) x) := put7_frm (Frm.refl _ w6) _ _ (.inl rfl)
 have END : Hid (ShrOut w d s g dk st F x x.p fs (hh + 1) E 2 (fun r' => r' ≤ r + 1) (.returned (.tuple #[.agg #[.int .i64 x.p, .int .i64 x.i, .bool x.fd, .bool x.lf, .slice x.ak x.lk x.ck, .slice x.av x.lv x.cv, .slice x.ac x.lc x.cc], .int .i64 0])) (put7 w6 (w.heap.size + 2) x)) := Hd (by
  refine ⟨x.i, x.fd, setKid f.N j q, x.ak, x.av, x.ac, x.ck, x.cv, x.cc, dk1, st1, r, F1, ?_, Nat.le_succ r, ?_⟩
  ·rw [(HLN.out q).1, (HLN.out q).2.1, (HLN.out q).2.2.1, (HLN.out q).2.2.2]
  ·refine { ts := T1.out.frm Fe (fun k hk hx => ?_), fr := (F05.out.mono (fun _ hk => .inl hk)).trans Fe (fun k hk => ?_), fn := fun k hk => (FN.out k hk).imp id (fun h1 => by have := S5.out; omega), rows := (r6.frm F6e (fun k hk => .inr (.inr (.inr hk)))).mono (fun k hk => .inr (.inl hk)), nv := HFV.out, ka := fun y hy => .inl (.inl ⟨y, hy, rfl⟩), kc := fun y hy => .inl (.inr ⟨y, hy, rfl⟩), at_ := ONE.out.1, nb := ONE.out.2, tt := TG.out.1, rm := fun k hk => TG.out.2 k (hk.le (by omega)) }
   ·rcases hx with hx | hx
    ·exact ZC.out (hx ▸ hk)
    ·rcases FN.out k hk with h1 | h1
     ·have := HLT.out _ h1; omega
     ·have := S5.out; omega
   ·rcases hk with hk | hk
    ·exact .inl (.inr (.inr ⟨_, EC.out, hk.symm⟩))
    ·exact .inr (by omega))
 have g0 := ufb XZ6 0;have g1 := ufb XZ6 1;have g2 := ufb XZ6 2;have g3 := ufb XZ6 3;have g4 := ufb XZ6 4;have g5 := ufb XZ6 5;have g6 := ufb XZ6 6;rw [hw6];clear hw6 f6 r6 Fe F6e d0 d1 d2 d3 d4 d5 d6 e2 e3;obtain ⟨i0, i1, i2, i3, i4, i5, i6⟩ := cells7 XZ6;obtain ⟨d0, d1, d2, d3, d4, d5, d6⟩ := cells7 XU6;unfold put7 at Z END;rw [EC.out, EI.out] at Z END;clear XU6 XZ6;go_wp2_with fail
 exact bodyPost_ret (v := .tuple #[.agg #[.int .i64 x.p, .int .i64 (j : Int), .bool x.fd, .bool x.lf, .slice x.ak x.lk x.ck, .slice x.av x.lv x.cv, .slice (some ⟨cb, off, none⟩) x.lc x.cc], .int .i64 0]) (by simp [results, Tryz.results50, go_sem, Z.out.1, Z.out.2.1, Z.out.2.2.1, Z.out.2.2.2.1, Z.out.2.2.2.2.1, Z.out.2.2.2.2.2.1, Z.out.2.2.2.2.2.2]) rfl END.out
theorem vshrink_left (w : World) (d s g : Nat) (dk : DkS) (st : ShS) (r : Nat) (F : Nat → Prop) (h : TS w d s g dk st r F) (G : Good dk st) (x : StepV) (f : Frame) (fs : List Frame) (hX : StepA w x f.N F) (hxp : x.p = f.page) (hxi : x.i = (f.KA.length : Int)) (hh : Nat) (p : Int) (N : Nod) (E : List Ent) (ha : AtI dk st (f :: fs) hh p N E) (hb : NB N 240) (hz : sizeN N < 80) (hKA : f.KA ≠ []) (ki : Int) (kf : Bool) (ak av ac : Option Addr) (ck cv cc : Nat) (hN : RowsA w N ak av ac ck cv cc F) (dp : Int) (hroom : Room dk st 2) (hdp : dp ≤ 10) (hr : r < 640) :
  Calls Tryz.prog 50 #[.pointer (some ⟨g, 0, none⟩), x.val, .agg #[.int .i64 p, .int .i64 ki, .bool kf, .bool N.leaf, .slice ak N.K.length ck, .slice av N.V.length cv, .slice ac N.C.length cc], .int .i64 dp] w (ShrOut w d s g dk st F x x.p fs (hh + 1) E 2 (fun r' => r' ≤ r + 1)) := by
 have hf := ha.frame;have hlive := ha.live;have hw := ha.whole;obtain ⟨c, hc⟩ := hf.c
 have hcl : f.KA.length < f.N.C.length ∧ f.N.C.length = f.KA.length + f.KB.length + 1 := by
  rw [hc]; simp only [List.length_append, kP_length, List.length_singleton, hf.a, hf.b]; omega
 have hkk : 0 < f.KA.length + f.KB.length := by
  have := List.length_pos_iff.2 hf.k0;rw [hf.k, List.length_append] at this;exact this
 obtain ⟨cb, off, ec, zc, cbl, _⟩ := merge_ready (q1 := 2) (i := f.KA.length) hX hf.v hcl.1 (by omega);have HLT := Hd h.lt
 have XBL : Hid (∀ k, XB x k → k < w.heap.size) := Hd (fun k hk => by
  rcases hk with ⟨y, hy, rfl⟩ | ⟨y, hy, rfl⟩
  ·exact (hX.uk y hy).1
  ·exact (hX.uc y hy).1)
 obtain ⟨j, hj⟩ : ∃ j, f.KA.length = j := ⟨_, rfl⟩
 obtain ⟨w1, hw1⟩ : ∃ w1, ((w.alloc (.cells #[.int .i64 x.p, .int .i64 (j : Int), .bool x.fd, .bool x.lf, .slice x.ak x.lk x.ck, .slice x.av x.lv x.cv, .slice (some ⟨cb, off, none⟩) x.lc x.cc] 99)).alloc (.cells #[.int .i64 p, .int .i64 ki, .bool kf, .bool N.leaf, .slice ak N.K.length ck, .slice av N.V.length cv, .slice ac N.C.length cc] 99)).alloc (.cells #[.int .i64 0, .int .i64 0, .bool false, .bool false, .slice none 0 0, .slice none 0 0, .slice none 0 0] 99) = w1 := ⟨_, rfl⟩
 obtain ⟨x1, x2, x3, z1, B1⟩ := alloc3 w (.cells #[.int .i64 x.p, .int .i64 (j : Int), .bool x.fd, .bool x.lf, .slice x.ak x.lk x.ck, .slice x.av x.lv x.cv, .slice (some ⟨cb, off, none⟩) x.lc x.cc] 99) (.cells #[.int .i64 p, .int .i64 ki, .bool kf, .bool N.leaf, .slice ak N.K.length ck, .slice av N.V.length cv, .slice ac N.C.length cc] 99) (.cells #[.int .i64 0, .int .i64 0, .bool false, .bool false, .slice none 0 0, .slice none 0 0, .slice none 0 0] 99);rw [hw1] at x1 x2 x3 z1 B1;have XU := Hd x1;have XK := Hd x2;have XZ := Hd x3;have Z1 := Hd z1;have B01 := Hd B1
 have HV : Hid (x.val = .agg #[.int .i64 x.p, .int .i64 (j : Int), .bool x.fd, .bool x.lf, .slice x.ak x.lk x.ck, .slice x.av x.lv x.cv, .slice (some ⟨cb, off, none⟩) x.lc x.cc]) := Hd (by unfold StepV.val; rw [ec, hxi, hj]);obtain ⟨z, hzz⟩ : ∃ z, sizeN N = z := ⟨_, rfl⟩
 have SZ := Hd (size_is N ak av ac ck cv cc w1 (hN.r.below B1) z (Hd hzz) hw);obtain ⟨KA, k, hka⟩ : ∃ KA k, f.KA = KA ++ [k] := ⟨_, _, (List.dropLast_concat_getLast hKA).symm⟩
 have hAne : f.A ≠ [] := fun e => hKA (List.length_eq_zero_iff.1 (by rw [← hf.a, e]; rfl))
 obtain ⟨A, a, haa⟩ : ∃ A a, f.A = A ++ [a] := ⟨_, _, (List.dropLast_concat_getLast hAne).symm⟩
 obtain ⟨M, hM, hMk, hP⟩ := pair_left ha hka haa;have hU : UpS f.N KA k f.KB A a.p c f.B := ⟨hf.lf, hf.v, by rw [hf.k, hka], by rw [hc, haa]; simp [kP], by have := hf.a; rw [haa, hka] at this; simpa using this, hf.b⟩
 obtain ⟨po, hpo⟩ : ∃ po, a.p = po := ⟨_, rfl⟩
 obtain ⟨b, hbb⟩ : ∃ b, KA.length = b := ⟨_, rfl⟩
 have hjb : j = b + 1 := by rw [← hj, hka, List.length_append, hbb]; rfl
 rw [← hxp, hpo] at hP;rw [hpo] at hU hM;have hM240 := NB.of_right (Rn_right hM).1
 have hC : f.N.C[b]? = some po := by
  rw [hU.c];rw [List.append_assoc, List.getElem?_append_right (by rw [kP_length, hU.a, hbb]; exact Nat.le_refl _), kP_length, hU.a, hbb, Nat.sub_self]; rfl
 have hBl : b < f.N.C.length := (List.getElem?_eq_some_iff.1 hC).1
 have KC0 : cb < w.heap.size ∧ w.cell? ⟨cb, off + b, none⟩ = some (.int .i64 po) := by
  obtain ⟨cb', off', e1, e2, e3⟩ := hX.a.r.c.at b (by rw [List.length_map]; exact hBl);rw [ec] at e1;injection e1 with e1;injection e1 with ea eb;subst ea eb;refine ⟨e2, ?_⟩;rw [e3, List.getElem_map];have := List.getElem?_eq_getElem hBl;rw [hC] at this;injection this with this;rw [← this]; rfl
 have HKC := Hd KC0;have ZCF : Hid (¬ F cb) := Hd zc;have hgF : F g := by obtain ⟨_, _, _, he⟩ := h; exact (he g).2 (.inr (.inr rfl))
 have ND : Hid (∀ wz, Below w1.heap.size w1 wz → Calls Tryz.prog 80 #[.pointer (some ⟨g, 0, none⟩), .int .i64 po, .int .i64 dp] wz fun e w' => DecBackU wz.heap.size M e w' ∧ TS w' d s g dk st (r + 1) F ∧ Frm (fun k => k = g) wz w') := Hd (fun wz bz => vnode_is wz d s g dk st r F (h.below (B1.trans (bz.mono B1.size))) G.su hr po dp hdp M hM)
 have MR : Hid (∀ w5 bk bv bc dk0 dv dc, Frm F w w5 → TS w5 d s g dk st (r + 1) F → NodR w5 M bk bv bc dk0 dv dc → Calls Tryz.prog 88 #[.pointer (some ⟨g, 0, none⟩), .agg #[.int .i64 x.p, .int .i64 (j : Int), .bool x.fd, .bool x.lf, .slice x.ak x.lk x.ck, .slice x.av x.lv x.cv, .slice (some ⟨cb, off, none⟩) x.lc x.cc], .int .i64 (b : Int), .agg #[.int .i64 po, .int .i64 0, .bool false, .bool M.leaf, .slice bk M.K.length dk0, .slice bv M.V.length dv, .slice bc M.C.length dc], .agg #[.int .i64 p, .int .i64 ki, .bool kf, .bool N.leaf, .slice ak N.K.length ck, .slice av N.V.length cv, .slice ac N.C.length cc]] w5 (ShrOut w5 d s g dk st F x x.p fs (hh + 1) E 2 (fun r' => r' = r + 1))) := Hd (fun w5 bk bv bc dk0 dv dc f5 t5 hm => by
  have := vmerge_is w5 d s g dk st (r + 1) F t5 G x f.N (hX.frm f5 (fun _ hk => hk)) fs hh KA f.KB k po p po c A f.B M N E hP hU (NB.of_right hf.r) hM240 hb (.inr hz) (.inl hMk) bk bv bc ak av ac dk0 dv dc ck cv cc 0 ki false kf hm (hN.frm f5 (fun _ hk => hk)).r hroom;rw [HV.out] at this;rw [hbb] at this;exact this)
 have hz' : ¬ (80 : Int) ≤ (z : Int) := by omega
 have hlc1 : ((x.lc : Int) == 1) = false := by rw [beq_eq_false_iff_ne]; have := hX.lc; omega
 have hblt : (b : Int) < (x.lc : Int) := by have := hX.lc; omega
 have hj0 : ((j : Int) == 0) = false := by rw [beq_eq_false_iff_ne]; omega
 have hwr : IntKind.i64.wrap ((j : Int) - 1) = (b : Int) := by rw [IntWalk.i64_in _ (by have := hX.a.r.ok.c1; omega)]; omega
 have hbj : (b : Int) < (j : Int) := by omega
 rw [HV.out];have HN := Hd hN;have HGF := Hd hgF;clear h G hX hxp hxi ha hb hz hN hroom hdp hr hf hlive hw hc hcl hkk ec zc cbl hj x1 x2 x3 z1 B1 HV hzz hKA hka hAne haa hbb hjb hP hU hM hMk hM240 hC hBl KC0 hpo hgF;unfold nodV at *;obtain ⟨b0, b1, b2, b3, b4, b5, b6⟩ := cells7 XK.out;go_enter Tryz.func50, Tryz.ntmps50;go_wp2_with fail;refine SZ.out.mono ?_;rintro e wg ⟨rfl, bg⟩;have Bg := Hd bg;have NDg := Hd (ND.out wg bg);clear b0 b1 b2 b3 b4 b5 b6;obtain ⟨d0, d1, d2, d3, d4, d5, d6⟩ := cells7 (kept XU.out bg);have B0g := Hd (B01.out.trans (bg.mono B01.out.size))
 have kc := (B0g.out.cell (p := ⟨cb, off + b, none⟩) HKC.out.1).trans HKC.out.2;clear bg;go_wp2_with fail;refine NDg.out.mono ?_;rintro e w2 ⟨⟨bk, bv, bc, dk0, dv, dc, rfl, hR, q1, q2, q3, _, _⟩, t2, f2⟩;unfold nodV;have S2 : Hid (w.heap.size + 3 ≤ wg.heap.size ∧ wg.heap.size ≤ w2.heap.size) := Hd ⟨by have := Bg.out.size; have := Z1.out; omega, f2.size⟩;have F02 : Hid (Frm F w w2) := Hd ((Frm.of_below B0g.out : Frm F w wg).trans f2 (fun k hk => .inl (hk ▸ HGF.out)));have NG : ∀ b, w.heap.size ≤ b → ¬ b = g := fun b hb e => by have := HLT.out _ HGF.out; omega
 have XU2 := (f2.block w.heap.size (by have := S2.out; omega) (NG _ (by omega))).trans (kept XU.out Bg.out);have XK2 := (f2.block (w.heap.size + 1) (by have := S2.out; omega) (NG _ (by omega))).trans (kept XK.out Bg.out);have XZ2 := (f2.block (w.heap.size + 2) (by have := S2.out; omega) (NG _ (by omega))).trans (kept XZ.out Bg.out);have T2 := Hd t2;have R2 := Hd hR;have C2 : ∀ y, Frm F w y → cb < y.heap.size → True := fun _ _ _ => trivial
 clear t2 f2 hR q1 q2 q3 NG C2 kc d0 d1 d2 d3 d4 d5 d6;go_upto_region 9 with fail
 obtain ⟨w3, hw3⟩ : ∃ w3, w2.alloc (.cells #[.bool M.leaf, .slice bk M.K.length dk0, .slice bv M.V.length dv, .slice bc M.C.length dc] 97) = w3 := ⟨_, rfl⟩
 obtain ⟨bx, hbx⟩ : ∃ bx, w2.heap.size = bx := ⟨_, rfl⟩
 have B23 : Below w2.heap.size w2 w3 := by rw [← hw3]; exact (Below.refl _ w2).alloc (Nat.le_refl _) _
 have XM3 : Hid (w3.heap[bx]? = some (.cells #[.bool M.leaf, .slice bk M.K.length dk0, .slice bv M.V.length dv, .slice bc M.C.length dc] 97)) := Hd (by rw [← hw3, ← hbx]; exact han w2 _);have XU3 := Hd (kept XU2 B23);have XK3 := Hd (kept XK2 B23);have XZ3 := Hd (kept XZ2 B23);have XU3L : Hid (w.heap.size < w3.heap.size) := Hd (zl XU3.out);have XM3L : Hid (bx < w3.heap.size) := Hd (zl XM3.out);have S3 : Hid (w.heap.size + 3 ≤ w3.heap.size) := Hd (by have := S2.out; have := B23.size; omega)
 have F03 : Hid (Frm F w w3) := Hd (F02.out.trans (G := fun _ => False) (Frm.of_below B23) (fun _ hx => hx.elim));have T3 := Hd (T2.out.below B23);have R3 := Hd (R2.out.below B23);have CB3 : Hid (cb < w3.heap.size ∧ w3.cell? ⟨cb, off + b, none⟩ = some (.int .i64 po)) := Hd ⟨by have := HKC.out.1; have := S3.out; omega, (F03.out.cell0 (p := ⟨cb, off + b, none⟩) HKC.out.1 ZCF.out).trans HKC.out.2⟩;rw [hw3, hbx];clear hw3 hbx B23 XU2 XK2 XZ2;go_upto_region 11 with fail
 refine wp_region_held_drew (S := fun wz => Frm (fun _ => False) w3 wz) (by kernel_rfl) ((Frm.refl (fun _ => False) w3).drew) (fun hS => ?_);refine Hu 0 67 hS ?_;simp only [SL];refine Hu 1 68 hS ?_;simp only [SL];refine Hv 2 69 ?vsl2x3 hS ?hsl2x3 ?_
 case hsl2x3 =>
  intro w9 s9;have cN6 := cl ((s9.block _ XU3L.out (fun h => h)).trans XU3.out) 6 rfl;clear s9;go_simp;try (with_reducible rfl)
 simp only [SL];refine Hu 3 70 hS ?_;simp only [SL];refine Hu 4 71 hS ?_;simp only [SL];refine Hv 5 72 ?vsl5x6 hS ?hsl5x6 ?_
 case hsl5x6 =>
  intro w9 s9;have c5 := (s9.cell0 (p := ⟨cb, off + b, none⟩) CB3.out.1 (fun h => h)).trans CB3.out.2;clear s9;go_simp;try (with_reducible rfl)
 simp only [SL];refine Hv 6 73 ?vsl6x7 hS ?hsl6x7 ?_
 case hsl6x7 =>
  intro w9 s9;have cN0 := cl ((s9.block _ XM3L.out (fun h => h)).trans XM3.out) 0 rfl;have cN1 := cl ((s9.block _ XM3L.out (fun h => h)).trans XM3.out) 1 rfl;have cN2 := cl ((s9.block _ XM3L.out (fun h => h)).trans XM3.out) 2 rfl;have cN3 := cl ((s9.block _ XM3L.out (fun h => h)).trans XM3.out) 3 rfl;clear s9;go_simp;try (with_reducible rfl)
 simp only [SL];refine Hu 7 74 hS ?_;simp only [SL];refine Hs 8 (fun K HK => ?_);go_simp;refine HK.out _ _ ?_ ?_
 ·exact hS.alloc _
 clear HK K;try simp only [Act.put, SL]
 have hS9 : Frm (fun _ => False) w3 (w3.alloc (.cells #[.int .i64 0, .int .i64 0, .bool false, .bool false, .slice none 0 0, .slice none 0 0, .slice none 0 0] 99)).drew := hS.alloc _;clear hS;obtain ⟨w4, hw4⟩ : ∃ w4, (w3.alloc (.cells #[.int .i64 0, .int .i64 0, .bool false, .bool false, .slice none 0 0, .slice none 0 0, .slice none 0 0] 99)).drew = w4 := ⟨_, rfl⟩
 obtain ⟨bo, hbo⟩ : ∃ bo, w3.heap.size = bo := ⟨_, rfl⟩
 have XO4 : w4.heap[bo]? = some (.cells #[.int .i64 0, .int .i64 0, .bool false, .bool false, .slice none 0 0, .slice none 0 0, .slice none 0 0] 99) := by rw [← hw4, ← hbo]; exact han w3 _
 have BO3 : Hid (w3.heap.size ≤ bo) := Hd (by rw [← hbo]; exact Nat.le_refl _);have BO4 : Hid (bo < w4.heap.size) := Hd ((zl XO4));rw [hw4] at hS9;rw [hw4, hbo];have hS := hS9;have g0 := ufb XO4 0;have g1 := ufb XO4 1;have g2 := ufb XO4 2;have g3 := ufb XO4 3;have g4 := ufb XO4 4;have g5 := ufb XO4 5;have g6 := ufb XO4 6;obtain ⟨i0, i1, i2, i3, i4, i5, i6⟩ := cells7 XO4;have HO4 := Hd XO4;have F34 := Hd hS;clear hS9 hw4 hbo XO4;refine Hs 9 (fun K HK => ?_);go_simp;refine HK.out _ _ ?_ ?_
 ·exact put7_frm hS _ (stepOf po 0 false M bk bv bc dk0 dv dc) (.inr BO3.out)
 clear HK K;try simp only [Act.put, SL]
 clear hS g0 g1 g2 g3 g4 g5 g6 i0 i1 i2 i3 i4 i5 i6;refine wpAnyH_done (by kernel_rfl) ?_ _
 skip
 obtain ⟨w5, hw5⟩ : ∃ w5, ((((((w4.setCell ⟨bo, 0, none⟩ (.int .i64 po)).setCell ⟨bo, 1, none⟩ (.int .i64 0)).setCell ⟨bo, 2, none⟩ (.bool false)).setCell ⟨bo, 3, none⟩ (.bool M.leaf)).setCell ⟨bo, 4, none⟩ (.slice bk M.K.length dk0)).setCell ⟨bo, 5, none⟩ (.slice bv M.V.length dv)).setCell ⟨bo, 6, none⟩ (.slice bc M.C.length dc) = w5 := ⟨_, rfl⟩
 have F45 : Frm (fun k => k = bo) w4 w5 := hw5 ▸ put7_frm (Frm.refl _ w4) bo (stepOf po 0 false M bk bv bc dk0 dv dc) (.inl rfl);have X5 : w5.heap[bo]? = some (.cells #[.int .i64 po, .int .i64 0, .bool false, .bool M.leaf, .slice bk M.K.length dk0, .slice bv M.V.length dv, .slice bc M.C.length dc] 99) := hw5 ▸ put7_block HO4.out (stepOf po 0 false M bk bv bc dk0 dv dc);have F35 : Frm (fun _ => False) w3 w5 := F34.out.trans F45 (fun k hk => .inr (by subst hk; exact BO3.out));have XU5 := (F35.block _ XU3L.out (fun h => h)).trans XU3.out
 have XK5 := (F35.block _ (by have := S3.out; omega) (fun h => h)).trans XK3.out;have XZ5 := (F35.block _ (by have := S3.out; omega) (fun h => h)).trans XZ3.out;have F05 : Frm F w w5 := F03.out.trans F35 (fun _ hx => hx.elim);have T5 := T3.out.frm F35 (fun _ _ hx => hx);have R5 : NodR w5 M bk bv bc dk0 dv dc := ((RowsA.new (lo := 0) (Z := fun _ => False) R3.out (fun _ _ => Nat.zero_le _) (fun _ _ => Nat.zero_le _) (fun _ _ => Nat.zero_le _) (fun _ hk => hk.elim)).frm F35 (fun _ hx => hx)).r;have MC5 := Hd (MR.out w5 bk bv bc dk0 dv dc F05 T5 R5);have HF5 := Hd F05;have HZ5 := Hd XZ5
 have S5 : Hid (w.heap.size + 3 ≤ w5.heap.size) := Hd (by have := S3.out; have := F35.size; omega);rw [hw5];clear hw5 F45 F35 F05 T5 R5 XZ5;obtain ⟨d0, d1, d2, d3, d4, d5, d6⟩ := cells7 XU5;obtain ⟨b0, b1, b2, b3, b4, b5, b6⟩ := cells7 XK5;obtain ⟨o0, o1, o2, o3, o4, o5, o6⟩ := cells7 X5;clear XU5 XK5 X5;go_wp2_with fail;refine MC5.out.mono ?_;rintro e w6 ⟨i', fd', N', bk', bv', bc', jk', jv', jc', dk', st', r', F', rfl, hr', hs⟩
 have XZ6 := (hs.fr.block (w.heap.size + 2) (by have := S5.out; omega) (fun hx => by
  rcases hx with hx | hx
  ·have := HLT.out _ hx; omega
  ·have := XBL.out _ hx; omega)).trans HZ5.out
 have Z := Hd (cells7 (put7_block XZ6 ⟨x.p, i', fd', N'.leaf, bk', N'.K.length, jk', bv', N'.V.length, jv', bc', N'.C.length, jc'⟩))
 have END : Hid (ShrOut w d s g dk st F x x.p fs (hh + 1) E 2 (fun r' => r' ≤ r + 1) (.returned (.tuple #[.agg #[.int .i64 x.p, .int .i64 i', .bool fd', .bool N'.leaf, .slice bk' N'.K.length jk', .slice bv' N'.V.length jv', .slice bc' N'.C.length jc'], .int .i64 0])) (put7 w6 (w.heap.size + 2) ⟨x.p, i', fd', N'.leaf, bk', N'.K.length, jk', bv', N'.V.length, jv', bc', N'.C.length, jc'⟩)) := Hd ⟨i', fd', N', bk', bv', bc', jk', jv', jc', dk', st', r', F', rfl, Nat.le_of_eq hr', hs.boxedF HF5.out (by omega) (by have := S5.out; omega) XBL.out HLT.out (put7_frm (Frm.refl _ w6) _ _ (.inl rfl))⟩
 have g0 := ufb XZ6 0;have g1 := ufb XZ6 1;have g2 := ufb XZ6 2;have g3 := ufb XZ6 3;have g4 := ufb XZ6 4;have g5 := ufb XZ6 5;have g6 := ufb XZ6 6;obtain ⟨i0, i1, i2, i3, i4, i5, i6⟩ := cells7 XZ6;unfold put7 at Z END;clear hs hr' XZ6 b0 b1 b2 b3 b4 b5 b6 d0 d1 d2 d3 d4 d5 d6 o0 o1 o2 o3 o4 o5 o6 MC5;go_wp2_with fail
 exact bodyPost_ret (v := .tuple #[.agg #[.int .i64 x.p, .int .i64 i', .bool fd', .bool N'.leaf, .slice bk' N'.K.length jk', .slice bv' N'.V.length jv', .slice bc' N'.C.length jc'], .int .i64 0]) (by simp [results, Tryz.results50, go_sem, Z.out.1, Z.out.2.1, Z.out.2.2.1, Z.out.2.2.2.1, Z.out.2.2.2.2.1, Z.out.2.2.2.2.2.1, Z.out.2.2.2.2.2.2]) rfl END.out
theorem vshrink_right (w : World) (d s g : Nat) (dk : DkS) (st : ShS) (r : Nat) (F : Nat → Prop) (h : TS w d s g dk st r F) (G : Good dk st) (x : StepV) (f : Frame) (fs : List Frame) (hX : StepA w x f.N F) (hxp : x.p = f.page) (hxi : x.i = (f.KA.length : Int)) (hh : Nat) (p : Int) (N : Nod) (E : List Ent) (ha : AtI dk st (f :: fs) hh p N E) (hb : NB N 240) (hz : sizeN N < 80) (hKA : f.KA = []) (ki : Int) (kf : Bool) (ak av ac : Option Addr) (ck cv cc : Nat) (hN : RowsA w N ak av ac ck cv cc F) (dp : Int) (hroom : Room dk st 2) (hdp : dp ≤ 10) (hr : r < 640) :
  Calls Tryz.prog 50 #[.pointer (some ⟨g, 0, none⟩), x.val, .agg #[.int .i64 p, .int .i64 ki, .bool kf, .bool N.leaf, .slice ak N.K.length ck, .slice av N.V.length cv, .slice ac N.C.length cc], .int .i64 dp] w (ShrOut w d s g dk st F x x.p fs (hh + 1) E 2 (fun r' => r' ≤ r + 1)) := by
 have hf := ha.frame;have hlive := ha.live;have hw := ha.whole;obtain ⟨c, hc⟩ := hf.c
 have hcl : f.KA.length < f.N.C.length ∧ f.N.C.length = f.KA.length + f.KB.length + 1 := by
  rw [hc]; simp only [List.length_append, kP_length, List.length_singleton, hf.a, hf.b]; omega
 have hkk : 0 < f.KA.length + f.KB.length := by
  have := List.length_pos_iff.2 hf.k0;rw [hf.k, List.length_append] at this;exact this
 obtain ⟨cb, off, ec, zc, cbl, _⟩ := merge_ready (q1 := 2) (i := f.KA.length) hX hf.v hcl.1 (by omega);have HLT := Hd h.lt
 have XBL : Hid (∀ k, XB x k → k < w.heap.size) := Hd (fun k hk => by
  rcases hk with ⟨y, hy, rfl⟩ | ⟨y, hy, rfl⟩
  ·exact (hX.uk y hy).1
  ·exact (hX.uc y hy).1)
 have hj : f.KA.length = 0 := by rw [hKA]; rfl
 obtain ⟨w1, hw1⟩ : ∃ w1, ((w.alloc (.cells #[.int .i64 x.p, .int .i64 0, .bool x.fd, .bool x.lf, .slice x.ak x.lk x.ck, .slice x.av x.lv x.cv, .slice (some ⟨cb, off, none⟩) x.lc x.cc] 99)).alloc (.cells #[.int .i64 p, .int .i64 ki, .bool kf, .bool N.leaf, .slice ak N.K.length ck, .slice av N.V.length cv, .slice ac N.C.length cc] 99)).alloc (.cells #[.int .i64 0, .int .i64 0, .bool false, .bool false, .slice none 0 0, .slice none 0 0, .slice none 0 0] 99) = w1 := ⟨_, rfl⟩
 obtain ⟨x1, x2, x3, z1, B1⟩ := alloc3 w (.cells #[.int .i64 x.p, .int .i64 0, .bool x.fd, .bool x.lf, .slice x.ak x.lk x.ck, .slice x.av x.lv x.cv, .slice (some ⟨cb, off, none⟩) x.lc x.cc] 99) (.cells #[.int .i64 p, .int .i64 ki, .bool kf, .bool N.leaf, .slice ak N.K.length ck, .slice av N.V.length cv, .slice ac N.C.length cc] 99) (.cells #[.int .i64 0, .int .i64 0, .bool false, .bool false, .slice none 0 0, .slice none 0 0, .slice none 0 0] 99);rw [hw1] at x1 x2 x3 z1 B1;have XU := Hd x1;have XK := Hd x2;have XZ := Hd x3;have Z1 := Hd z1;have B01 := Hd B1
 have HV : Hid (x.val = .agg #[.int .i64 x.p, .int .i64 0, .bool x.fd, .bool x.lf, .slice x.ak x.lk x.ck, .slice x.av x.lv x.cv, .slice (some ⟨cb, off, none⟩) x.lc x.cc]) := Hd (by unfold StepV.val; rw [ec, hxi, hj]; rfl);obtain ⟨z, hzz⟩ : ∃ z, sizeN N = z := ⟨_, rfl⟩
 have SZ := Hd (size_is N ak av ac ck cv cc w1 (hN.r.below B1) z (Hd hzz) hw);have hKBne : f.KB ≠ [] := fun e => by rw [hKA, e] at hkk; simp at hkk
 obtain ⟨k, KB, hkb⟩ := List.exists_cons_of_ne_nil hKBne;have hBne : f.B ≠ [] := fun e => hKBne (List.length_eq_zero_iff.1 (by rw [← hf.b, e]; rfl))
 obtain ⟨a, Bt, hbe⟩ := List.exists_cons_of_ne_nil hBne;obtain ⟨M, hM, hMk, hP⟩ := pair_right ha hkb hbe;have hA0 : f.A = [] := List.length_eq_zero_iff.1 (by rw [hf.a, hKA]; rfl);have hU : UpS f.N f.KA k KB f.A c a.p Bt := ⟨hf.lf, hf.v, by rw [hf.k, hkb]; simp, by rw [hc, hbe]; simp [kP], hf.a, by have := hf.b; rw [hbe, hkb] at this; simpa using this⟩
 obtain ⟨po, hpo⟩ : ∃ po, a.p = po := ⟨_, rfl⟩
 rw [← hxp, hpo] at hP;rw [hpo] at hU hM;have hM240 := NB.of_right (Rn_right hM).1
 have hC : f.N.C[1]? = some po := by
  rw [hU.c];rw [hA0]; rfl
 have hBl : 1 < f.N.C.length := (List.getElem?_eq_some_iff.1 hC).1
 have KC0 : cb < w.heap.size ∧ w.cell? ⟨cb, off + 1, none⟩ = some (.int .i64 po) := by
  obtain ⟨cb', off', e1, e2, e3⟩ := hX.a.r.c.at 1 (by rw [List.length_map]; exact hBl);rw [ec] at e1;injection e1 with e1;injection e1 with ea eb;subst ea eb;refine ⟨e2, ?_⟩;rw [e3, List.getElem_map];have := List.getElem?_eq_getElem hBl;rw [hC] at this;injection this with this;rw [← this]; rfl
 have HKC := Hd KC0;have ZCF : Hid (¬ F cb) := Hd zc;have hgF : F g := by obtain ⟨_, _, _, he⟩ := h; exact (he g).2 (.inr (.inr rfl))
 have ND : Hid (∀ wz, Below w1.heap.size w1 wz → Calls Tryz.prog 80 #[.pointer (some ⟨g, 0, none⟩), .int .i64 po, .int .i64 dp] wz fun e w' => DecBackU wz.heap.size M e w' ∧ TS w' d s g dk st (r + 1) F ∧ Frm (fun k => k = g) wz w') := Hd (fun wz bz => vnode_is wz d s g dk st r F (h.below (B1.trans (bz.mono B1.size))) G.su hr po dp hdp M hM)
 have MR : Hid (∀ w5 bk bv bc dk0 dv dc, Frm F w w5 → TS w5 d s g dk st (r + 1) F → NodR w5 M bk bv bc dk0 dv dc → Calls Tryz.prog 88 #[.pointer (some ⟨g, 0, none⟩), .agg #[.int .i64 x.p, .int .i64 0, .bool x.fd, .bool x.lf, .slice x.ak x.lk x.ck, .slice x.av x.lv x.cv, .slice (some ⟨cb, off, none⟩) x.lc x.cc], .int .i64 0, .agg #[.int .i64 p, .int .i64 ki, .bool kf, .bool N.leaf, .slice ak N.K.length ck, .slice av N.V.length cv, .slice ac N.C.length cc], .agg #[.int .i64 po, .int .i64 0, .bool false, .bool M.leaf, .slice bk M.K.length dk0, .slice bv M.V.length dv, .slice bc M.C.length dc]] w5 (ShrOut w5 d s g dk st F x x.p fs (hh + 1) E 2 (fun r' => r' = r + 1))) := Hd (fun w5 bk bv bc dk0 dv dc f5 t5 hm => by
  have := vmerge_is w5 d s g dk st (r + 1) F t5 G x f.N (hX.frm f5 (fun _ hk => hk)) fs hh f.KA KB k p po c po f.A Bt N M E hP hU (NB.of_right hf.r) hb hM240 (.inl hz) (.inr hMk) ak av ac bk bv bc ck cv cc dk0 dv dc ki 0 kf false (hN.frm f5 (fun _ hk => hk)).r hm hroom;rw [HV.out] at this;rw [hj] at this;exact this)
 have hz' : ¬ (80 : Int) ≤ (z : Int) := by omega
 have hlc1 : ((x.lc : Int) == 1) = false := by rw [beq_eq_false_iff_ne]; have := hX.lc; omega
 have hblt : (1 : Int) < (x.lc : Int) := by have := hX.lc; omega
 have hdum : True := trivial;rw [HV.out];have HN := Hd hN;have HGF := Hd hgF;clear h G hX hxp hxi ha hb hz hN hroom hdp hr hf hlive hw hc hcl hkk ec zc cbl hj x1 x2 x3 z1 B1 HV hzz hKA hdum hKBne hkb hBne hbe hA0 hP hU hM hMk hM240 hC hBl KC0 hpo hgF;unfold nodV at *;obtain ⟨b0, b1, b2, b3, b4, b5, b6⟩ := cells7 XK.out;go_enter Tryz.func50, Tryz.ntmps50;go_wp2_with fail;refine SZ.out.mono ?_;rintro e wg ⟨rfl, bg⟩;have Bg := Hd bg;have NDg := Hd (ND.out wg bg);clear b0 b1 b2 b3 b4 b5 b6;obtain ⟨d0, d1, d2, d3, d4, d5, d6⟩ := cells7 (kept XU.out bg)
 have B0g := Hd (B01.out.trans (bg.mono B01.out.size));have kc := (B0g.out.cell (p := ⟨cb, off + 1, none⟩) HKC.out.1).trans HKC.out.2;clear bg;go_wp2_with fail;refine NDg.out.mono ?_;rintro e w2 ⟨⟨bk, bv, bc, dk0, dv, dc, rfl, hR, q1, q2, q3, _, _⟩, t2, f2⟩;unfold nodV;have S2 : Hid (w.heap.size + 3 ≤ wg.heap.size ∧ wg.heap.size ≤ w2.heap.size) := Hd ⟨by have := Bg.out.size; have := Z1.out; omega, f2.size⟩;have F02 : Hid (Frm F w w2) := Hd ((Frm.of_below B0g.out : Frm F w wg).trans f2 (fun k hk => .inl (hk ▸ HGF.out)))
 have NG : ∀ b, w.heap.size ≤ b → ¬ b = g := fun b hb e => by have := HLT.out _ HGF.out; omega
 have XU2 := (f2.block w.heap.size (by have := S2.out; omega) (NG _ (by omega))).trans (kept XU.out Bg.out);have XK2 := (f2.block (w.heap.size + 1) (by have := S2.out; omega) (NG _ (by omega))).trans (kept XK.out Bg.out);have XZ2 := (f2.block (w.heap.size + 2) (by have := S2.out; omega) (NG _ (by omega))).trans (kept XZ.out Bg.out);have T2 := Hd t2;have R2 := Hd hR;have C2 : ∀ y, Frm F w y → cb < y.heap.size → True := fun _ _ _ => trivial
 clear t2 f2 hR q1 q2 q3 NG C2 kc d0 d1 d2 d3 d4 d5 d6;go_upto_region 9 with fail
 obtain ⟨w3, hw3⟩ : ∃ w3, w2.alloc (.cells #[.bool M.leaf, .slice bk M.K.length dk0, .slice bv M.V.length dv, .slice bc M.C.length dc] 97) = w3 := ⟨_, rfl⟩
 obtain ⟨bx, hbx⟩ : ∃ bx, w2.heap.size = bx := ⟨_, rfl⟩
 have B23 : Below w2.heap.size w2 w3 := by rw [← hw3]; exact (Below.refl _ w2).alloc (Nat.le_refl _) _
 have XM3 : Hid (w3.heap[bx]? = some (.cells #[.bool M.leaf, .slice bk M.K.length dk0, .slice bv M.V.length dv, .slice bc M.C.length dc] 97)) := Hd (by rw [← hw3, ← hbx]; exact han w2 _);have XU3 := Hd (kept XU2 B23);have XK3 := Hd (kept XK2 B23);have XZ3 := Hd (kept XZ2 B23);have XU3L : Hid (w.heap.size < w3.heap.size) := Hd (zl XU3.out);have XM3L : Hid (bx < w3.heap.size) := Hd (zl XM3.out);have S3 : Hid (w.heap.size + 3 ≤ w3.heap.size) := Hd (by have := S2.out; have := B23.size; omega)
 have F03 : Hid (Frm F w w3) := Hd (F02.out.trans (G := fun _ => False) (Frm.of_below B23) (fun _ hx => hx.elim));have T3 := Hd (T2.out.below B23);have R3 := Hd (R2.out.below B23);have CB3 : Hid (cb < w3.heap.size ∧ w3.cell? ⟨cb, off + 1, none⟩ = some (.int .i64 po)) := Hd ⟨by have := HKC.out.1; have := S3.out; omega, (F03.out.cell0 (p := ⟨cb, off + 1, none⟩) HKC.out.1 ZCF.out).trans HKC.out.2⟩;rw [hw3, hbx];clear hw3 hbx B23 XU2 XK2 XZ2;go_upto_region 11 with fail
 refine wp_region_held_drew (S := fun wz => Frm (fun _ => False) w3 wz) (by kernel_rfl) ((Frm.refl (fun _ => False) w3).drew) (fun hS => ?_);refine Hu 0 67 hS ?_;simp only [SL];refine Hu 1 68 hS ?_;simp only [SL];refine Hv 2 69 ?vsr2x3 hS ?hsr2x3 ?_
 case hsr2x3 =>
  intro w9 s9;have cN6 := cl ((s9.block _ XU3L.out (fun h => h)).trans XU3.out) 6 rfl;clear s9;go_simp;try (with_reducible rfl)
 simp only [SL];refine Hu 3 70 hS ?_;simp only [SL];refine Hu 4 71 hS ?_;simp only [SL];refine Hv 5 72 ?vsr5x6 hS ?hsr5x6 ?_
 case hsr5x6 =>
  intro w9 s9;have c5 := (s9.cell0 (p := ⟨cb, off + 1, none⟩) CB3.out.1 (fun h => h)).trans CB3.out.2;clear s9;go_simp;try (with_reducible rfl)
 simp only [SL];refine Hv 6 73 ?vsr6x7 hS ?hsr6x7 ?_
 case hsr6x7 =>
  intro w9 s9;have cN0 := cl ((s9.block _ XM3L.out (fun h => h)).trans XM3.out) 0 rfl;have cN1 := cl ((s9.block _ XM3L.out (fun h => h)).trans XM3.out) 1 rfl;have cN2 := cl ((s9.block _ XM3L.out (fun h => h)).trans XM3.out) 2 rfl;have cN3 := cl ((s9.block _ XM3L.out (fun h => h)).trans XM3.out) 3 rfl;clear s9;go_simp;try (with_reducible rfl)
 simp only [SL];refine Hu 7 74 hS ?_;simp only [SL];refine Hs 8 (fun K HK => ?_);go_simp;refine HK.out _ _ ?_ ?_
 ·exact hS.alloc _
 clear HK K;try simp only [Act.put, SL]
 have hS9 : Frm (fun _ => False) w3 (w3.alloc (.cells #[.int .i64 0, .int .i64 0, .bool false, .bool false, .slice none 0 0, .slice none 0 0, .slice none 0 0] 99)).drew := hS.alloc _;clear hS;obtain ⟨w4, hw4⟩ : ∃ w4, (w3.alloc (.cells #[.int .i64 0, .int .i64 0, .bool false, .bool false, .slice none 0 0, .slice none 0 0, .slice none 0 0] 99)).drew = w4 := ⟨_, rfl⟩
 obtain ⟨bo, hbo⟩ : ∃ bo, w3.heap.size = bo := ⟨_, rfl⟩
 have XO4 : w4.heap[bo]? = some (.cells #[.int .i64 0, .int .i64 0, .bool false, .bool false, .slice none 0 0, .slice none 0 0, .slice none 0 0] 99) := by rw [← hw4, ← hbo]; exact han w3 _
 have BO3 : Hid (w3.heap.size ≤ bo) := Hd (by rw [← hbo]; exact Nat.le_refl _);have BO4 : Hid (bo < w4.heap.size) := Hd ((zl XO4));rw [hw4] at hS9;rw [hw4, hbo];have hS := hS9;have g0 := ufb XO4 0;have g1 := ufb XO4 1;have g2 := ufb XO4 2;have g3 := ufb XO4 3;have g4 := ufb XO4 4;have g5 := ufb XO4 5;have g6 := ufb XO4 6;obtain ⟨i0, i1, i2, i3, i4, i5, i6⟩ := cells7 XO4;have HO4 := Hd XO4;have F34 := Hd hS;clear hS9 hw4 hbo XO4;refine Hs 9 (fun K HK => ?_);go_simp;refine HK.out _ _ ?_ ?_
 ·exact put7_frm hS _ (stepOf po 0 false M bk bv bc dk0 dv dc) (.inr BO3.out)
 clear HK K;try simp only [Act.put, SL]
 clear hS g0 g1 g2 g3 g4 g5 g6 i0 i1 i2 i3 i4 i5 i6;refine wpAnyH_done (by kernel_rfl) ?_ _
 skip
 obtain ⟨w5, hw5⟩ : ∃ w5, ((((((w4.setCell ⟨bo, 0, none⟩ (.int .i64 po)).setCell ⟨bo, 1, none⟩ (.int .i64 0)).setCell ⟨bo, 2, none⟩ (.bool false)).setCell ⟨bo, 3, none⟩ (.bool M.leaf)).setCell ⟨bo, 4, none⟩ (.slice bk M.K.length dk0)).setCell ⟨bo, 5, none⟩ (.slice bv M.V.length dv)).setCell ⟨bo, 6, none⟩ (.slice bc M.C.length dc) = w5 := ⟨_, rfl⟩
 have F45 : Frm (fun k => k = bo) w4 w5 := hw5 ▸ put7_frm (Frm.refl _ w4) bo (stepOf po 0 false M bk bv bc dk0 dv dc) (.inl rfl);have X5 : w5.heap[bo]? = some (.cells #[.int .i64 po, .int .i64 0, .bool false, .bool M.leaf, .slice bk M.K.length dk0, .slice bv M.V.length dv, .slice bc M.C.length dc] 99) := hw5 ▸ put7_block HO4.out (stepOf po 0 false M bk bv bc dk0 dv dc);have F35 : Frm (fun _ => False) w3 w5 := F34.out.trans F45 (fun k hk => .inr (by subst hk; exact BO3.out));have XU5 := (F35.block _ XU3L.out (fun h => h)).trans XU3.out
 have XK5 := (F35.block _ (by have := S3.out; omega) (fun h => h)).trans XK3.out;have XZ5 := (F35.block _ (by have := S3.out; omega) (fun h => h)).trans XZ3.out;have F05 : Frm F w w5 := F03.out.trans F35 (fun _ hx => hx.elim);have T5 := T3.out.frm F35 (fun _ _ hx => hx);have R5 : NodR w5 M bk bv bc dk0 dv dc := ((RowsA.new (lo := 0) (Z := fun _ => False) R3.out (fun _ _ => Nat.zero_le _) (fun _ _ => Nat.zero_le _) (fun _ _ => Nat.zero_le _) (fun _ hk => hk.elim)).frm F35 (fun _ hx => hx)).r;have MC5 := Hd (MR.out w5 bk bv bc dk0 dv dc F05 T5 R5);have HF5 := Hd F05;have HZ5 := Hd XZ5
 have S5 : Hid (w.heap.size + 3 ≤ w5.heap.size) := Hd (by have := S3.out; have := F35.size; omega);rw [hw5];clear hw5 F45 F35 F05 T5 R5 XZ5;obtain ⟨d0, d1, d2, d3, d4, d5, d6⟩ := cells7 XU5;obtain ⟨b0, b1, b2, b3, b4, b5, b6⟩ := cells7 XK5;obtain ⟨o0, o1, o2, o3, o4, o5, o6⟩ := cells7 X5;clear XU5 XK5 X5;go_wp2_with fail;refine MC5.out.mono ?_;rintro e w6 ⟨i', fd', N', bk', bv', bc', jk', jv', jc', dk', st', r', F', rfl, hr', hs⟩
 have XZ6 := (hs.fr.block (w.heap.size + 2) (by have := S5.out; omega) (fun hx => by
  rcases hx with hx | hx
  ·have := HLT.out _ hx; omega
  ·have := XBL.out _ hx; omega)).trans HZ5.out
 have Z := Hd (cells7 (put7_block XZ6 ⟨x.p, i', fd', N'.leaf, bk', N'.K.length, jk', bv', N'.V.length, jv', bc', N'.C.length, jc'⟩))
 have END : Hid (ShrOut w d s g dk st F x x.p fs (hh + 1) E 2 (fun r' => r' ≤ r + 1) (.returned (.tuple #[.agg #[.int .i64 x.p, .int .i64 i', .bool fd', .bool N'.leaf, .slice bk' N'.K.length jk', .slice bv' N'.V.length jv', .slice bc' N'.C.length jc'], .int .i64 0])) (put7 w6 (w.heap.size + 2) ⟨x.p, i', fd', N'.leaf, bk', N'.K.length, jk', bv', N'.V.length, jv', bc', N'.C.length, jc'⟩)) := Hd ⟨i', fd', N', bk', bv', bc', jk', jv', jc', dk', st', r', F', rfl, Nat.le_of_eq hr', hs.boxedF HF5.out (by omega) (by have := S5.out; omega) XBL.out HLT.out (put7_frm (Frm.refl _ w6) _ _ (.inl rfl))⟩
 have g0 := ufb XZ6 0;have g1 := ufb XZ6 1;have g2 := ufb XZ6 2;have g3 := ufb XZ6 3;have g4 := ufb XZ6 4;have g5 := ufb XZ6 5;have g6 := ufb XZ6 6;obtain ⟨i0, i1, i2, i3, i4, i5, i6⟩ := cells7 XZ6;unfold put7 at Z END;clear hs hr' XZ6 b0 b1 b2 b3 b4 b5 b6 d0 d1 d2 d3 d4 d5 d6 o0 o1 o2 o3 o4 o5 o6 MC5;go_wp2_with fail
 exact bodyPost_ret (v := .tuple #[.agg #[.int .i64 x.p, .int .i64 i', .bool fd', .bool N'.leaf, .slice bk' N'.K.length jk', .slice bv' N'.V.length jv', .slice bc' N'.C.length jc'], .int .i64 0]) (by simp [results, Tryz.results50, go_sem, Z.out.1, Z.out.2.1, Z.out.2.2.1, Z.out.2.2.2.1, Z.out.2.2.2.2.1, Z.out.2.2.2.2.2.1, Z.out.2.2.2.2.2.2]) rfl END.out
def ReadT (dk : DkS) (root : Int) (E : List Ent) : Prop := (root = 0 ∧ E = []) ∨ ∃ h F P, IsT (Rn dk) h root F P ∧ SortM F ∧ entsM F = E
theorem TreeI.reads {dk : DkS} {st : ShS} {root : Int} {E : List Ent} (h : TreeI dk st root E) : ReadT dk root E := by
 rcases h with ⟨h1, h2, _⟩ | ⟨hh, F, P, ht, hs, he, _⟩
 ·exact .inl ⟨h1, h2⟩
 ·exact .inr ⟨hh, F, P, ht, hs, he⟩
theorem IsT.low {dk : DkS} {h : Nat} {root : Int} {F : List Mk} {P : List Int} (ht : IsT (Rn dk) h root F P) (hE : (entsM F).length ≤ 600) : h ≤ 9 := by
 have := (IsT_count ht).2;apply Decidable.byContradiction;intro hx;have h10 : 2 ^ 10 ≤ 2 ^ h := Nat.pow_le_pow_right (by decide) (by omega);omega
def getV (key : Int) (E : List Ent) : ByteArray := match getE key E with | some v => v | none => ⟨#[]⟩
def getB (key : Int) (E : List Ent) : Bool := (getE key E).isSome
theorem get_leaf {dk : DkS} {M : Nod} {FL FR Fh : List Mk} {key : Int} {i : Nat} {fd : Bool} (ht : NodT (Rn dk) 0 M Fh []) (hs : SortM (FL ++ Fh ++ FR)) (hL : ∀ m ∈ FL, ordM m < 2 * key + 1) (hR : ∀ m ∈ FR, 2 * key + 1 < ordM m) (hf : findN M key = (i, fd)) :
  (fd = true ∧ ∃ v, M.V[i]? = some v ∧ getE key (entsM (FL ++ Fh ++ FR)) = some v) ∨ (fd = false ∧ getE key (entsM (FL ++ Fh ++ FR)) = none) := by
 obtain ⟨s1, s2, s3⟩ := SortM_append.1 hs;obtain ⟨j, X, Y, hX, hY, hh⟩ := leaf_place ht (SortM_append.1 s1).2.1 key
 have side : ∀ (Z : List Mk), (∀ m ∈ Z, ordM m ≠ 2 * key + 1) → ∀ e ∈ entsM Z, e.1 ≠ key := by
  intro Z hZ e he;obtain ⟨m, hm, hme⟩ := List.mem_filterMap.1 he;have := hZ m hm;obtain ⟨a, b⟩ := m
  cases b with
  | none => simp [entM] at hme
  | some b => simp [entM] at hme; subst hme; rw [ord_ent] at this; show a ≠ key; omega
 have small : ∀ e ∈ entsM (FL ++ X), e.1 < key := by
  intro e he;obtain ⟨m, hm, hme⟩ := List.mem_filterMap.1 he;have : ordM m < 2 * key + 1 := (List.mem_append.1 hm).elim (hL m) (hX m);obtain ⟨a, b⟩ := m
  cases b with
  | none => simp [entM] at hme
  | some b => simp [entM] at hme; subst hme; rw [ord_ent] at this; show a < key; omega
 rcases hh with ⟨old, e0, e00, ev, e1, _⟩ | ⟨e0, e1, _⟩
 ·rw [hf] at e0
  injection e0 with e0 e2;subst e0 e2;refine .inl ⟨rfl, old, ev, ?_⟩;have : entsM (FL ++ Fh ++ FR) = entsM (FL ++ X) ++ (key, old) :: entsM (Y ++ FR) := by rw [e1]; simp [entsM_append, entsM_ent]
  rw [this];exact getE_old _ _ _ _ small
 ·rw [hf] at e0
  injection e0 with e0 e2;subst e0 e2;refine .inr ⟨rfl, getE_none _ _ (side _ (fun m hm => ?_))⟩;rw [e1] at hm;simp only [List.mem_append] at hm
  rcases hm with (hm | hm | hm) | hm
  ·have := hL m hm; omega
  ·have := hX m hm; omega
  ·have := hY m hm; omega
  ·have := hR m hm; omega
theorem tget_is (w : World) (d s : Nat) (dk : DkS) (st : ShS) (F : Nat → Prop) (h : SD w d s dk st F) (G : Good dk st) (root : Int) (E : List Ent) (ht : ReadT dk root E) (hE : E.length ≤ 600) (key : Int) (hk : 0 ≤ key ∧ key ≤ 18446744073709551615) :
  Calls Tryz.prog 22 #[.pointer (some ⟨s, 0, none⟩), .int .i64 root, .int .u64 key] w fun e w' => e = .returned (.tuple #[.string (getV key E), .bool (getB key E), .int .i64 0]) ∧ Below w.heap.size w w' := by
 rcases ht with ⟨rfl, rfl⟩ | ⟨hh, F0, P0, hi, hs, rfl⟩
 ·clear h G
  have e1 : getV key [] = ⟨#[]⟩ := rfl;have e2 : getB key [] = false := rfl;rw [e1, e2];go_enter Tryz.func22, Tryz.ntmps22;go_wp2_with fail;go_ret3;exact ⟨rfl, Br⟩
 ·have h9 := hi.low hE
  have h0 : root ≠ 0 := by
   obtain ⟨M, PM, m1, _⟩ := hi;have := (Rn_read m1).1; omega
  have h0' : (root == 0) = false := by rw [beq_eq_false_iff_ne]; exact h0
  have DN := Hd (down_is (w.alloc (visO s 0)) d s w.heap.size dk st 0 _ h.visit G root hh F0 P0 hi hs h9 (by omega) key hk);have HS := Hd hs;unfold visO at DN;clear h G hi hs h9 h0 hk;go_enter Tryz.func22, Tryz.ntmps22;go_wp2_with fail;refine DN.out.mono ?_;rintro e w1 ⟨v, fs, xs, x, M, i, fd, FL, FR, Fh, PC, hi, rfl, hD⟩;obtain ⟨va, vc, rfl, _, _⟩ := own_shape7 hD.own;obtain ⟨vn, hvn⟩ : ∃ vn, (xs.reverse ++ [x]).length = vn := ⟨_, rfl⟩
  have W2 : Way (w1.alloc (.cells #[.slice va (xs.reverse ++ [x]).length vc] 92)) w1.heap.size (xs.reverse ++ [x]) (WF w1.heap.size (.slice va (xs.reverse ++ [x]).length vc)) :=
   ⟨_, ⟨han w1 _, own_frmZ (F := fun _ => False) hD.own ((Frm.refl _ w1).alloc _) (fun _ _ hx => hx), fun e => by have := (hD.own.lt _ e).2; omega⟩, fun _ => Iff.rfl⟩
  have PO := Hd (way_pop _ w1.heap.size xs.reverse x _ W2);have s01 : w.heap.size + 1 ≤ w1.heap.size := by have := hD.fr.size; rw [World.size_alloc] at this; exact this
  have gl := get_leaf hD.nt (by rw [hD.eF]; exact HS.out) hD.bL hD.bR hD.fn;rw [hD.eF] at gl;have HD := Hd hD;have xf := hD.xf;have xi := hD.xi;have HB1 : Hid (Below w.heap.size w w1) := Hd (((Frm.refl (fun k => k = w.heap.size) w).alloc _).trans hD.fr (fun k hk => .inl hk) |>.below (fun k hk => by omega) (Nat.le_refl _));rw [hvn] at PO HD ⊢;clear hD W2 hvn;go_wp2_with fail;refine PO.out.mono ?_;rintro e w3 ⟨rfl, hw3, hf3⟩;unfold StepV.val
  have HB3 : Hid (Below w.heap.size w w3) := Hd ((HB1.out.alloc (by omega) _).trans (hf3.below (fun k hk => by subst hk; omega) (by rw [World.size_alloc]; omega)));have B4 := HB3.out.alloc HB3.out.size (.cells #[.int .i64 x.p, .int .i64 x.i, .bool x.fd, .bool x.lf, .slice x.ak x.lk x.ck, .slice x.av x.lv x.cv, .slice x.ac x.lc x.cc] 99);have FIN := Hd B4;have f13 : Frm (fun k => k = w1.heap.size) w1 w3 := ((Frm.refl _ w1).alloc _).trans hf3 (fun k hk => .inl hk)
  have SA : StepA w3 x M (fun k => k = w1.heap.size) := (HD.out.lf.grow (Z' := fun k => k = w1.heap.size) (fun k hk => .inr (by omega))).frm f13 (fun k hk => hk)
  rcases gl with ⟨rfl, val, hv, hg⟩ | ⟨rfl, hg⟩
  ·have e1 : getV key (entsM F0) = val := by unfold getV; rw [hg]
   have e2 : getB key (entsM F0) = true := by unfold getB; rw [hg]; rfl
   have E12 := Hd (And.intro e1 e2);obtain ⟨hvl, hvi⟩ := List.getElem?_eq_some_iff.1 hv;obtain ⟨cb, off, a1, a2, a3⟩ := SA.a.r.v.at i (by simpa using hvl);have a4 : w3.cell? ⟨cb, off + i, none⟩ = some (.string val) := by rw [a3]; simp [hvi]
   have hil : (i : Int) < (x.lv : Int) := by rw [SA.lv]; omega
   obtain ⟨w4, hw4⟩ : ∃ w4, w3.alloc (.cells #[.int .i64 x.p, .int .i64 x.i, .bool x.fd, .bool x.lf, .slice x.ak x.lk x.ck, .slice x.av x.lv x.cv, .slice x.ac x.lc x.cc] 99) = w4 := ⟨_, rfl⟩
   have b4 : Below w3.heap.size w3 w4 := by rw [← hw4]; exact (Below.refl _ w3).alloc (Nat.le_refl _) _
   have X4 : w4.heap[w3.heap.size]? = some (.cells #[.int .i64 x.p, .int .i64 x.i, .bool x.fd, .bool x.lf, .slice x.ak x.lk x.ck, .slice x.av x.lv x.cv, .slice x.ac x.lc x.cc] 99) := by rw [← hw4]; exact han w3 _
   have a5 := (b4.cell (p := ⟨cb, off + i, none⟩) a2).trans a4;rw [xi, xf, a1] at X4;obtain ⟨d0, d1, d2, d3, d4, d5, d6⟩ := cells7 X4;rw [hw4] at FIN;have HXI := Hd (And.intro xi (And.intro xf a1));have FIN2 : Hid (Ending.returned (.tuple #[.string val, .bool true, .int .i64 0]) = Ending.returned (.tuple #[.string (getV key (entsM F0)), .bool (getB key (entsM F0)), .int .i64 0]) ∧ Below w.heap.size w w4) := Hd ⟨by rw [e1, e2], FIN.out⟩;clear SA X4 b4 a4 a3 a2 hv hvl hvi hg e1 e2 hf3 f13 B4 hw3 HB3 HB1 s01 xi xf a1;go_upto_region 8 with fail
   try rw [hw4]
   clear hw4;go_wp2_with fail;go_ret3;exact FIN2.out
  ·have e1 : getV key (entsM F0) = ⟨#[]⟩ := by unfold getV; rw [hg]
   have e2 : getB key (entsM F0) = false := by unfold getB; rw [hg]; rfl
   have E12 := Hd (And.intro e1 e2);obtain ⟨w4, hw4⟩ : ∃ w4, w3.alloc (.cells #[.int .i64 x.p, .int .i64 x.i, .bool x.fd, .bool x.lf, .slice x.ak x.lk x.ck, .slice x.av x.lv x.cv, .slice x.ac x.lc x.cc] 99) = w4 := ⟨_, rfl⟩
   have X4 : w4.heap[w3.heap.size]? = some (.cells #[.int .i64 x.p, .int .i64 x.i, .bool x.fd, .bool x.lf, .slice x.ak x.lk x.ck, .slice x.av x.lv x.cv, .slice x.ac x.lc x.cc] 99) := by rw [← hw4]; exact han w3 _
   rw [xf] at X4;obtain ⟨d0, d1, d2, d3, d4, d5, d6⟩ := cells7 X4;rw [hw4] at FIN;have FIN2 : Hid (Ending.returned (.tuple #[.string ⟨#[]⟩, .bool false, .int .i64 0]) = Ending.returned (.tuple #[.string (getV key (entsM F0)), .bool (getB key (entsM F0)), .int .i64 0]) ∧ Below w.heap.size w w4) := Hd ⟨by rw [e1, e2], FIN.out⟩;clear SA X4 hg e1 e2 hf3 f13 B4 hw3 HB3 HB1 s01 xi xf;go_upto_region 8 with fail
   try rw [hw4]
   clear hw4;go_wp2_with fail;go_ret3;exact FIN2.out
end Go.Proofs.YtmomlhiokggfbaaGreatDoor
