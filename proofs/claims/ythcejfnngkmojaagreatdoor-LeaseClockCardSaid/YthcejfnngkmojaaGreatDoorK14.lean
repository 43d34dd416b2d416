/-
 NodeSl, TrD, TrG, TrH, TrT, TrU.
-/
import Derived.Test.YthcejfnngkmojaaGreatDoorK02
import Derived.Test.YthcejfnngkmojaaGreatDoorK12
import Derived.Test.YthcejfnngkmojaaGreatDoorK13
namespace Go.Proofs.YthcejfnngkmojaaGreatDoor
open Go.RowKit
set_option maxRecDepth 20000
set_option maxHeartbeats 12800000
set_option linter.unusedVariables false
set_option linter.unusedSimpArgs false
def LoR (lo : Nat) (ak av ac : Option Addr) : Prop := (∀ x, ak = some x → lo ≤ x.block) ∧ (∀ x, av = some x → lo ≤ x.block) ∧ ∀ x, ac = some x → lo ≤ x.block
def SplitBackL (lo : Nat) (A B : Nod) (mid : Int) (e : Ending) (w' : World) : Prop := ∃ ak av ac ck cv cc bk bv bc dk dv dc, e = .returned (.tuple #[nodV A ak av ac ck cv cc, .int .u64 mid, nodV B bk bv bc dk dv dc, .bool true]) ∧ NodR w' A ak av ac ck cv cc ∧ NodR w' B bk bv bc dk dv dc ∧ LoR lo ak av ac ∧ LoR lo bk bv bc
theorem split_yesL (n : Nod) (ak av ac : Option Addr) (ck cv cc : Nat) (w : World) (h : NodR w n ak av ac ck cv cc) (hw : wholeB n = true) (hl : leastN n.leaf ≤ n.K.length) (mid : Int) (hm : n.K[cutN n]? = some mid) :
  Calls Tryz.prog 174 #[nodV n ak av ac ck cv cc] w fun e w' => SplitBackL w.heap.size (aheadN n (cutN n)) (behindN n (cutN n)) mid e w' ∧ Below w.heap.size w w' := by
 have hle2 : 2 ≤ leastN n.leaf := by unfold leastN; split <;> omega
 have hcl := (cutN_le n).2;have hc1 : cutN n + 1 ≤ n.K.length := by unfold mostN at hcl; omega
 have WH := Hd (fun w => whole_any n ak av ac ck cv cc w h.ok true hw);have LS := Hd (fun w' => least_is n ak av ac ck cv cc w');have CU := Hd (fun w' (hb : Below w.heap.size w w') => cut_is n ak av ac ck cv cc w' (h.below hb) hw hl);have AH := Hd (fun w' (hb : Below w.heap.size w w') => ahead_is n ak av ac ck cv cc w' (h.below hb) (cutN n) hw (by omega));have BH := Hd (fun w' (hb : Below w.heap.size w w') => behind_is n ak av ac ck cv cc w' (h.below hb) (cutN n) hw hc1)
 have FK : Hid (∀ w', Below w.heap.size w w' → ∃ b off, ak = some ⟨b, off, none⟩ ∧ b < w'.heap.size ∧ w'.cell? ⟨b, off + cutN n, none⟩ = some (.int .u64 mid)) := Hd (fun w' hb => by
  obtain ⟨hq, hq2⟩ := List.getElem?_eq_some_iff.1 hm;obtain ⟨b, off, q1, q2, q3⟩ := (h.below hb).k.at (cutN n) (by simpa using hq);exact ⟨b, off, q1, q2, by rw [q3]; simp [ukey, hq2]⟩)
 obtain ⟨A, hA⟩ : ∃ A, aheadN n (cutN n) = A := ⟨_, rfl⟩
 obtain ⟨B, hB⟩ : ∃ B, behindN n (cutN n) = B := ⟨_, rfl⟩
 rw [hA] at AH ⊢;rw [hB] at BH ⊢;have hk1 := h.ok.k1;have hli : ¬ (n.K.length : Int) < (leastN n.leaf : Int) := by omega
 have hln : ¬ n.K.length < leastN n.leaf := by omega
 have hci : (cutN n : Int) < (n.K.length : Int) := by omega
 generalize cutN n = c at *;obtain ⟨kb, ko, rfl, -, -⟩ := FK.out w Br
 have FC : Hid (∀ w', Below w.heap.size w w' → w'.cell? ⟨kb, ko + c, none⟩ = some (.int .u64 mid)) := Hd (fun w' hb => by
  obtain ⟨b, off, he, -, hc⟩ := FK.out w' hb
  cases he
  exact hc)
 clear h hw hl hm hA hB hcl hc1 hle2 FK;obtain ⟨lf, K, V, C⟩ := n;unfold nodV at *
 dsimp only at *
 generalize K.length = lk at *;generalize V.length = lv at *;generalize C.length = lc at *;obtain ⟨W, hW⟩ : ∃ W, ((w.alloc (.cells #[.bool lf, .slice (some ⟨kb, ko, none⟩) lk ck, .slice av lv cv, .slice ac lc cc] 181)).alloc (.cells #[.bool false, .slice none 0 0, .slice none 0 0, .slice none 0 0] 181)).alloc (.cells #[.bool false, .slice none 0 0, .slice none 0 0, .slice none 0 0] 181) = W := ⟨_, rfl⟩
 have hsz : (w.alloc (.cells #[.bool lf, .slice (some ⟨kb, ko, none⟩) lk ck, .slice av lv cv, .slice ac lc cc] 181)).heap.size = w.heap.size + 1 := by simp
 have hsz2 : ((w.alloc (.cells #[.bool lf, .slice (some ⟨kb, ko, none⟩) lk ck, .slice av lv cv, .slice ac lc cc] 181)).alloc (.cells #[.bool false, .slice none 0 0, .slice none 0 0, .slice none 0 0] 181)).heap.size = w.heap.size + 2 := by simp
 have bW : Below w.heap.size w W := by rw [← hW]; exact ((Br.alloc (Nat.le_refl _) _).alloc (by simp) _).alloc (by simp; omega) _
 have XW : Hid (W.heap[w.heap.size]? = some (.cells #[.bool lf, .slice (some ⟨kb, ko, none⟩) lk ck, .slice av lv cv, .slice ac lc cc] 181)) := Hd (by rw [← hW]; exact (heap_alloc_old _ _ (by simp; omega)).trans ((heap_alloc_old _ _ (by simp)).trans (heap_alloc_new w _)));have Z1 : Hid (W.heap[w.heap.size + 1]? = some (.cells #[.bool false, .slice none 0 0, .slice none 0 0, .slice none 0 0] 181)) := Hd (by rw [← hW, ← hsz]; exact (heap_alloc_old _ _ (by simp)).trans (heap_alloc_new _ _))
 have Z2 : Hid (W.heap[w.heap.size + 2]? = some (.cells #[.bool false, .slice none 0 0, .slice none 0 0, .slice none 0 0] 181)) := Hd (by rw [← hW, ← hsz2]; exact heap_alloc_new _ _);have BW := Hd bW;have HW := Hd hW;clear bW hW hsz hsz2;go_enter Tryz.func174, Tryz.ntmps174;go_wp2_with fail;rw [HW.out];clear HW;refine wp_region_held_drew (S := fun w' => Below W.heap.size W w') (by kernel_rfl) (Below.refl W.heap.size W).drew (fun hS => ?_);refine Hv 0 7 ?vy0x1 hS ?hy0x1 ?_
 case hy0x1 =>
  intro w9 s9;have X9 := kept XW.out s9;have c0 := cl X9 0 rfl;have c1 := cl X9 1 rfl;have c2 := cl X9 2 rfl;have c3 := cl X9 3 rfl;clear s9;go_simp;try (with_reducible rfl)
 simp only [SL];refine Hs 1 (fun K HK => ?_);go_simp;go_wp2_with fail;refine (WH.out _).mono ?_;rintro e v1 ⟨rfl, b1⟩;refine HK.out _ _ ?_ ?_
 ·exact chain hS b1
 clear HK K;try simp only [Act.put, SL]
 have hS9 := chain hS b1;clear hS;have hS := hS9;clear hS9;clear b1;refine Hu 2 9 hS ?_;simp only [SL];refine Hu 3 10 hS ?_;simp only [SL];refine Hu 4 11 hS ?_;simp only [SL];refine Hv 5 12 ?vy5x5 hS ?hy5x5 ?_
 case hy5x5 =>
  intro w9 s9;have X9 := kept XW.out s9;have c0 := cl X9 0 rfl;have c1 := cl X9 1 rfl;have c2 := cl X9 2 rfl;have c3 := cl X9 3 rfl;clear s9;go_simp;try (with_reducible rfl)
 simp only [SL];refine Hu 6 13 hS ?_;simp only [SL];refine Hv 7 14 ?vy7x7 hS ?hy7x7 ?_
 case hy7x7 =>
  intro w9 s9;have X9 := kept XW.out s9;have c0 := cl X9 0 rfl;have c1 := cl X9 1 rfl;have c2 := cl X9 2 rfl;have c3 := cl X9 3 rfl;clear s9;go_simp;try (with_reducible rfl)
 simp only [SL];refine Hs 8 (fun K HK => ?_);go_simp;go_wp2_with fail;refine (LS.out _).mono ?_;rintro e v2 ⟨rfl, b2⟩;refine HK.out _ _ ?_ ?_
 ·exact chain hS b2
 clear HK K;try simp only [Act.put, SL]
 have hS9 := chain hS b2;clear hS;have hS := hS9;clear hS9;clear b2;refine Hu 9 16 hS ?_;simp only [SL];refine Hu 10 17 hS ?_;simp only [SL];refine wpAnyH_done (by kernel_rfl) ?_ _;have H1 := Hd hS;clear hS;have X2 := Hd (kept XW.out H1.out);have Y1 := Hd (kept Z1.out H1.out);have Y2 := Hd (kept Z2.out H1.out);have B2 := Hd (chain BW.out H1.out);clear XW Z1 Z2 BW H1;have y0 := cl X2.out 0 rfl;have y1 := cl X2.out 1 rfl;have y2 := cl X2.out 2 rfl;have y3 := cl X2.out 3 rfl;go_wp2_with fail;refine (CU.out _ B2.out).mono ?_;rintro e v3 ⟨rfl, b3⟩;have X3 := Hd (kept X2.out b3)
 have Y3 := Hd (kept Y1.out b3);have Z3 := Hd (kept Y2.out b3);have B3 := Hd (chain B2.out b3);have hlt3 : Hid (w.heap.size + 2 < v3.heap.size) := Hd (Array.getElem?_eq_some_iff.1 Z3.out).1;clear b3 X2 Y1 Y2 B2 y0 y1 y2 y3 CU;go_wp2_with fail;refine wp_region_held_drew (S := fun w' => Below (w.heap.size + 1) v3 w') (by kernel_rfl) (Below.refl (w.heap.size + 1) v3).drew (fun hS => ?_);refine Hv 0 22 ?vz0x1 hS ?hz0x1 ?_
 case hz0x1 =>
  intro w9 s9;have X9 := (s9.block w.heap.size (by omega)).trans X3.out;have c0 := cl X9 0 rfl;have c1 := cl X9 1 rfl;have c2 := cl X9 2 rfl;have c3 := cl X9 3 rfl;clear s9;go_simp;try (with_reducible rfl)
 simp only [SL];refine Hu 1 23 hS ?_;simp only [SL];refine Hu 3 25 hS ?_;simp only [SL];refine Hv 4 26 ?vz4x4 hS ?hz4x4 ?_
 case hz4x4 =>
  intro w9 s9;have X9 := (s9.block w.heap.size (by omega)).trans X3.out;have c0 := cl X9 0 rfl;have c1 := cl X9 1 rfl;have c2 := cl X9 2 rfl;have c3 := cl X9 3 rfl;clear s9;go_simp;try (with_reducible rfl)
 simp only [SL];refine Hu 5 27 hS ?_;simp only [SL];refine Hu 6 28 hS ?_;simp only [SL];refine Hv 7 29 ?vz7x7 hS ?hz7x7 ?_
 case hz7x7 =>
  intro w9 s9;have c := FC.out _ (B3.out.trans (s9.mono (by omega)));clear s9;go_simp;try (with_reducible rfl)
 simp only [SL];refine Hv 8 30 ?vz8x8 hS ?hz8x8 ?_
 case hz8x8 =>
  intro w9 s9;have X9 := (s9.block w.heap.size (by omega)).trans X3.out;have c0 := cl X9 0 rfl;have c1 := cl X9 1 rfl;have c2 := cl X9 2 rfl;have c3 := cl X9 3 rfl;clear s9;go_simp;try (with_reducible rfl)
 simp only [SL];refine Hu 9 31 hS ?_;simp only [SL];refine Hs 2 (fun K HK => ?_);go_simp;go_wp2_with fail;refine (AH.out _ (B3.out.trans (hS.mono (by omega)))).mono ?_;rintro e u1 ⟨⟨xk, xv, xc, dk, dv, dc, rfl, hR1, q1, q2, q3⟩, b1⟩;have q1 := fun x hx => Nat.le_trans hS.size (q1 x hx)
 have q2 := fun x hx => Nat.le_trans hS.size (q2 x hx)
 have q3 := fun x hx => Nat.le_trans hS.size (q3 x hx)
 simp only [nodV];refine HK.out _ _ ?_ ?_
 ·exact hS.trans (b1.mono (show w.heap.size + 1 ≤ _ from by have := hlt3.out; have := hS.size; omega))
 clear HK K;try simp only [Act.put, SL]
 have hS9 := hS.trans (b1.mono (show w.heap.size + 1 ≤ _ from by have := hlt3.out; have := hS.size; omega));clear hS;have hS := hS9;clear hS9;have R1 := Hd hR1;have Q1 := Hd (And.intro q1 (And.intro q2 q3));have Y4 := Hd (kept (show v3.drew.heap[w.heap.size + 1]? = _ from Y3.out) b1);have Z4 := Hd (kept (show v3.drew.heap[w.heap.size + 2]? = _ from Z3.out) b1);clear b1 hR1 q1 q2 q3 Y3 Z3;refine Hs 10 (fun K HK => ?_);go_simp;go_wp2_with fail;refine (BH.out _ (B3.out.trans (hS.mono (by omega)))).mono ?_;rintro e u2 ⟨⟨yk, yv, yc, ek, ev, ec, rfl, hR2, q1, q2, q3⟩, b2⟩
 have q1 := fun x hx => Nat.le_trans hS.size (q1 x hx)
 have q2 := fun x hx => Nat.le_trans hS.size (q2 x hx)
 have q3 := fun x hx => Nat.le_trans hS.size (q3 x hx)
 simp only [nodV];refine HK.out _ _ ?_ ?_
 ·exact hS.trans (b2.mono (show w.heap.size + 1 ≤ _ from by have := hlt3.out; have := hS.size; omega))
 clear HK K;try simp only [Act.put, SL]
 have hS9 := hS.trans (b2.mono (show w.heap.size + 1 ≤ _ from by have := hlt3.out; have := hS.size; omega));clear hS;have hS := hS9;clear hS9;have R1' := Hd (R1.out.below b2);have R2 := Hd hR2;have Q2 := Hd (And.intro q1 (And.intro q2 q3));have Y5 := Hd (kept Y4.out b2);have Z5 := Hd (kept Z4.out b2);have L1 := Hd b2.size;clear b2 hR2 q1 q2 q3 Y4 Z4 R1;have y0 := cl Y5.out 0 rfl;have y1 := cl Y5.out 1 rfl;have y2 := cl Y5.out 2 rfl;have y3 := cl Y5.out 3 rfl;have f0 := ufb Y5.out 0;have f1 := ufb Y5.out 1;have f2 := ufb Y5.out 2;have f3 := ufb Y5.out 3;refine Hs 11 (fun K HK => ?_);go_simp
 refine HK.out _ _ ?_ ?_
 ·exact (((hS.setCell (Nat.le_refl _) _).setCell (Nat.le_refl _) _).setCell (Nat.le_refl _) _).setCell (Nat.le_refl _) _
 clear HK K;try simp only [Act.put, SL]
 have hne1 : ∀ i, w.heap.size + 2 ≠ (⟨w.heap.size + 1, i, none⟩ : Addr).block := fun i => by show w.heap.size + 2 ≠ w.heap.size + 1; omega
 have XA : ((((u2.setCell ⟨w.heap.size + 1, 0, none⟩ (.bool A.leaf)).setCell ⟨w.heap.size + 1, 1, none⟩ (.slice xk A.K.length dk)).setCell ⟨w.heap.size + 1, 2, none⟩ (.slice xv A.V.length dv)).setCell ⟨w.heap.size + 1, 3, none⟩ (.slice xc A.C.length dc)).heap[w.heap.size + 1]? = some (.cells #[.bool A.leaf, .slice xk A.K.length dk, .slice xv A.V.length dv, .slice xc A.C.length dc] 181) := by
  rw [heap_setCell_same _ _ 3 _ _ _ (heap_setCell_same _ _ 2 _ _ _ (heap_setCell_same _ _ 1 _ _ _ (heap_setCell_same _ _ 0 _ _ _ Y5.out)))]
  rfl
 have XZ : ((((u2.setCell ⟨w.heap.size + 1, 0, none⟩ (.bool A.leaf)).setCell ⟨w.heap.size + 1, 1, none⟩ (.slice xk A.K.length dk)).setCell ⟨w.heap.size + 1, 2, none⟩ (.slice xv A.V.length dv)).setCell ⟨w.heap.size + 1, 3, none⟩ (.slice xc A.C.length dc)).heap[w.heap.size + 2]? = some (.cells #[.bool false, .slice none 0 0, .slice none 0 0, .slice none 0 0] 181) := by
  rw [Below.heap_setCell _ _ _ _ (hne1 3), Below.heap_setCell _ _ _ _ (hne1 2), Below.heap_setCell _ _ _ _ (hne1 1), Below.heap_setCell _ _ _ _ (hne1 0)];exact Z5.out
 have RA : NodR ((((u2.setCell ⟨w.heap.size + 1, 0, none⟩ (.bool A.leaf)).setCell ⟨w.heap.size + 1, 1, none⟩ (.slice xk A.K.length dk)).setCell ⟨w.heap.size + 1, 2, none⟩ (.slice xv A.V.length dv)).setCell ⟨w.heap.size + 1, 3, none⟩ (.slice xc A.C.length dc)) A xk xv xc dk dv dc := R1'.out.set4 _ _ _ _ _ (fun x hx => by have := Q1.out.1 x hx; have := hlt3.out; omega) (fun x hx => by have := Q1.out.2.1 x hx; have := hlt3.out; omega) (fun x hx => by have := Q1.out.2.2 x hx; have := hlt3.out; omega)
 have RB : NodR ((((u2.setCell ⟨w.heap.size + 1, 0, none⟩ (.bool A.leaf)).setCell ⟨w.heap.size + 1, 1, none⟩ (.slice xk A.K.length dk)).setCell ⟨w.heap.size + 1, 2, none⟩ (.slice xv A.V.length dv)).setCell ⟨w.heap.size + 1, 3, none⟩ (.slice xc A.C.length dc)) B yk yv yc ek ev ec := R2.out.set4 _ _ _ _ _ (fun x hx => by have := Q2.out.1 x hx; have := hlt3.out; omega) (fun x hx => by have := Q2.out.2.1 x hx; have := hlt3.out; omega) (fun x hx => by have := Q2.out.2.2 x hx; have := hlt3.out; omega)
 have hS9 : Below (w.heap.size + 1) v3 ((((u2.setCell ⟨w.heap.size + 1, 0, none⟩ (.bool A.leaf)).setCell ⟨w.heap.size + 1, 1, none⟩ (.slice xk A.K.length dk)).setCell ⟨w.heap.size + 1, 2, none⟩ (.slice xv A.V.length dv)).setCell ⟨w.heap.size + 1, 3, none⟩ (.slice xc A.C.length dc)) := (((hS.setCell (Nat.le_refl _) _).setCell (Nat.le_refl _) _).setCell (Nat.le_refl _) _).setCell (Nat.le_refl _) _;clear y0 y1 y2 y3 f0 f1 f2 f3 hne1 hS R1' R2 Y5 Z5
 obtain ⟨wz, hwz⟩ : ∃ wz, ((((u2.setCell ⟨w.heap.size + 1, 0, none⟩ (.bool A.leaf)).setCell ⟨w.heap.size + 1, 1, none⟩ (.slice xk A.K.length dk)).setCell ⟨w.heap.size + 1, 2, none⟩ (.slice xv A.V.length dv)).setCell ⟨w.heap.size + 1, 3, none⟩ (.slice xc A.C.length dc)) = wz := ⟨_, rfl⟩
 rw [hwz] at XA XZ RA RB hS9 ⊢;clear hwz;have hS := hS9;clear hS9;have XA' := Hd XA;have XZ' := Hd XZ;have RA' := Hd RA;have RB' := Hd RB;clear XA XZ RA RB;have y0 := cl (XZ'.out) 0 rfl;have y1 := cl (XZ'.out) 1 rfl;have y2 := cl (XZ'.out) 2 rfl;have y3 := cl (XZ'.out) 3 rfl;have f0 := ufb XZ'.out 0;have f1 := ufb XZ'.out 1;have f2 := ufb XZ'.out 2;have f3 := ufb XZ'.out 3;refine Hu 12 3 hS ?_;simp only [SL];refine Hs 13 (fun K HK => ?_);go_simp;refine HK.out _ _ ?_ ?_
 ·exact (((hS.setCell (by simp) _).setCell (by simp) _).setCell (by simp) _).setCell (by simp) _
 clear HK K;try simp only [Act.put, SL]
 have hne1 : ∀ i, w.heap.size + 1 ≠ (⟨w.heap.size + 2, i, none⟩ : Addr).block := fun i => by show w.heap.size + 1 ≠ w.heap.size + 2; omega
 have XB : ((((wz.setCell ⟨w.heap.size + 2, 0, none⟩ (.bool B.leaf)).setCell ⟨w.heap.size + 2, 1, none⟩ (.slice yk B.K.length ek)).setCell ⟨w.heap.size + 2, 2, none⟩ (.slice yv B.V.length ev)).setCell ⟨w.heap.size + 2, 3, none⟩ (.slice yc B.C.length ec)).heap[w.heap.size + 2]? = some (.cells #[.bool B.leaf, .slice yk B.K.length ek, .slice yv B.V.length ev, .slice yc B.C.length ec] 181) := by
  rw [heap_setCell_same _ _ 3 _ _ _ (heap_setCell_same _ _ 2 _ _ _ (heap_setCell_same _ _ 1 _ _ _ (heap_setCell_same _ _ 0 _ _ _ XZ'.out)))]
  rfl
 have XC : ((((wz.setCell ⟨w.heap.size + 2, 0, none⟩ (.bool B.leaf)).setCell ⟨w.heap.size + 2, 1, none⟩ (.slice yk B.K.length ek)).setCell ⟨w.heap.size + 2, 2, none⟩ (.slice yv B.V.length ev)).setCell ⟨w.heap.size + 2, 3, none⟩ (.slice yc B.C.length ec)).heap[w.heap.size + 1]? = some (.cells #[.bool A.leaf, .slice xk A.K.length dk, .slice xv A.V.length dv, .slice xc A.C.length dc] 181) := by
  rw [Below.heap_setCell _ _ _ _ (hne1 3), Below.heap_setCell _ _ _ _ (hne1 2), Below.heap_setCell _ _ _ _ (hne1 1), Below.heap_setCell _ _ _ _ (hne1 0)];exact XA'.out
 have RA : NodR ((((wz.setCell ⟨w.heap.size + 2, 0, none⟩ (.bool B.leaf)).setCell ⟨w.heap.size + 2, 1, none⟩ (.slice yk B.K.length ek)).setCell ⟨w.heap.size + 2, 2, none⟩ (.slice yv B.V.length ev)).setCell ⟨w.heap.size + 2, 3, none⟩ (.slice yc B.C.length ec)) A xk xv xc dk dv dc := RA'.out.set4 _ _ _ _ _ (fun x hx => by have := Q1.out.1 x hx; have := hlt3.out; omega) (fun x hx => by have := Q1.out.2.1 x hx; have := hlt3.out; omega) (fun x hx => by have := Q1.out.2.2 x hx; have := hlt3.out; omega)
 have RB : NodR ((((wz.setCell ⟨w.heap.size + 2, 0, none⟩ (.bool B.leaf)).setCell ⟨w.heap.size + 2, 1, none⟩ (.slice yk B.K.length ek)).setCell ⟨w.heap.size + 2, 2, none⟩ (.slice yv B.V.length ev)).setCell ⟨w.heap.size + 2, 3, none⟩ (.slice yc B.C.length ec)) B yk yv yc ek ev ec := RB'.out.set4 _ _ _ _ _ (fun x hx => by have := Q2.out.1 x hx; have := hlt3.out; omega) (fun x hx => by have := Q2.out.2.1 x hx; have := hlt3.out; omega) (fun x hx => by have := Q2.out.2.2 x hx; have := hlt3.out; omega)
 have hS9 : Below (w.heap.size + 1) v3 ((((wz.setCell ⟨w.heap.size + 2, 0, none⟩ (.bool B.leaf)).setCell ⟨w.heap.size + 2, 1, none⟩ (.slice yk B.K.length ek)).setCell ⟨w.heap.size + 2, 2, none⟩ (.slice yv B.V.length ev)).setCell ⟨w.heap.size + 2, 3, none⟩ (.slice yc B.C.length ec)) := (((hS.setCell (by simp) _).setCell (by simp) _).setCell (by simp) _).setCell (by simp) _;clear y0 y1 y2 y3 f0 f1 f2 f3 hne1 hS
 obtain ⟨wy, hwy⟩ : ∃ wy, ((((wz.setCell ⟨w.heap.size + 2, 0, none⟩ (.bool B.leaf)).setCell ⟨w.heap.size + 2, 1, none⟩ (.slice yk B.K.length ek)).setCell ⟨w.heap.size + 2, 2, none⟩ (.slice yv B.V.length ev)).setCell ⟨w.heap.size + 2, 3, none⟩ (.slice yc B.C.length ec)) = wy := ⟨_, rfl⟩
 rw [hwy] at XB XC RA RB hS9 ⊢;clear hwy;have hS := hS9;clear hS9;refine Hu 14 5 hS ?_;simp only [SL];refine wpAnyH_done (by kernel_rfl) ?_ _;have FIN : Hid (Below w.heap.size w wy) := Hd (B3.out.trans (hS.mono (by omega)));have z10 := cl XC 0 rfl;have z11 := cl XC 1 rfl;have z12 := cl XC 2 rfl;have z13 := cl XC 3 rfl;have z20 := cl XB 0 rfl;have z21 := cl XB 1 rfl;have z22 := cl XB 2 rfl;have z23 := cl XB 3 rfl;have RES : Hid (NodR wy A xk xv xc dk dv dc ∧ NodR wy B yk yv yc ek ev ec) := Hd ⟨RA, RB⟩
 have LOS : Hid (LoR w.heap.size xk xv xc ∧ LoR w.heap.size yk yv yc) := Hd ⟨⟨fun x hx => by have := Q1.out.1 x hx; have := hlt3.out; omega, fun x hx => by have := Q1.out.2.1 x hx; have := hlt3.out; omega, fun x hx => by have := Q1.out.2.2 x hx; have := hlt3.out; omega⟩, fun x hx => by have := Q2.out.1 x hx; have := hlt3.out; omega, fun x hx => by have := Q2.out.2.1 x hx; have := hlt3.out; omega, fun x hx => by have := Q2.out.2.2 x hx; have := hlt3.out; omega⟩;clear RA RB XC XB hS;go_wp2_with fail
 exact bodyPost_ret (v := .tuple #[.agg #[.bool A.leaf, .slice xk A.K.length dk, .slice xv A.V.length dv, .slice xc A.C.length dc], .int .u64 mid, .agg #[.bool B.leaf, .slice yk B.K.length ek, .slice yv B.V.length ev, .slice yc B.C.length ec], .bool true]) (by simp [results, Tryz.results174, go_sem, z10, z11, z12, z13, z20, z21, z22, z23]) rfl ⟨⟨xk, xv, xc, dk, dv, dc, yk, yv, yc, ek, ev, ec, rfl, RES.out.1, RES.out.2, LOS.out.1, LOS.out.2⟩, FIN.out⟩
theorem Rd.frm {w w' : World} {a : Option Addr} {L : List Value} {G : Nat → Prop} (h : Rd w a L) (hf : Frm G w w') (hn : ∀ x, a = some x → L ≠ [] → ¬ G x.block) : Rd w' a L := by
 rcases h with h | ⟨b, off, h1, h2, h3⟩
 ·exact .inl h
 ·by_cases hL : L = []
  ·exact .inl hL
  ·refine .inr ⟨b, off, h1, Nat.lt_of_lt_of_le h2 hf.size, fun i u hu => ?_⟩
   have hb := hf.block b h2 (hn _ h1 hL);have := h3 i u hu;unfold World.cell? at this ⊢;rw [show w'.heap[(⟨b, off + i, none⟩ : Addr).block]? = w.heap[(⟨b, off + i, none⟩ : Addr).block]? from hb];exact this
theorem Rd.blk {w : World} {a : Option Addr} {L : List Value} (h : Rd w a L) (hL : L ≠ []) : ∀ x, a = some x → x.block < w.heap.size := by
 intro x hx
 rcases h with h | ⟨b, off, h1, h2, h3⟩
 ·exact absurd h hL
 ·rw [h1] at hx; injection hx with hx; subst hx; exact h2
theorem Unf.frm {w w' : World} {a : Option Addr} {G : Nat → Prop} (h : Unf w a) (hf : Frm G w w') (hn : ∀ x, a = some x → ¬ G x.block) : Unf w' a := by
 intro x hx;obtain ⟨h1, h2⟩ := h x hx;refine ⟨Nat.lt_of_lt_of_le h1 hf.size, fun i => ?_⟩;have := h2 i;unfold World.frozen? at this ⊢;rw [show w'.heap[(⟨x.block, i, none⟩ : Addr).block]? = w.heap[(⟨x.block, i, none⟩ : Addr).block]? from hf.block x.block h1 (hn x hx)];exact this
structure RowsA (w : World) (n : Nod) (ak av ac : Option Addr) (ck cv cc : Nat) (Z : Nat → Prop) : Prop where
 r : NodR w n ak av ac ck cv cc
 zk : ∀ x, ak = some x → n.K ≠ [] → ¬ Z x.block
 zv : ∀ x, av = some x → n.V ≠ [] → ¬ Z x.block
 zc : ∀ x, ac = some x → n.C ≠ [] → ¬ Z x.block
theorem RowsA.frm {w w' : World} {n : Nod} {ak av ac : Option Addr} {ck cv cc : Nat} {Z G : Nat → Prop} (h : RowsA w n ak av ac ck cv cc Z) (hf : Frm G w w') (hG : ∀ k, G k → Z k) : RowsA w' n ak av ac ck cv cc Z :=
 { h with r := { h.r with
   k := h.r.k.frm hf fun x hx hL hg => h.zk x hx (fun e => hL (by rw [e]; rfl)) (hG _ hg)
   v := h.r.v.frm hf fun x hx hL hg => h.zv x hx (fun e => hL (by rw [e]; rfl)) (hG _ hg)
   c := h.r.c.frm hf fun x hx hL hg => h.zc x hx (fun e => hL (by rw [e]; rfl)) (hG _ hg) } }
theorem RowsA.below {w w' : World} {n : Nod} {ak av ac : Option Addr} {ck cv cc : Nat} {Z : Nat → Prop} (h : RowsA w n ak av ac ck cv cc Z) (hb : Below w.heap.size w w') : RowsA w' n ak av ac ck cv cc Z := { h with r := h.r.below hb }
theorem RowsA.grow {w : World} {n : Nod} {ak av ac : Option Addr} {ck cv cc : Nat} {Z Z' : Nat → Prop} (h : RowsA w n ak av ac ck cv cc Z) (hZ : ∀ k, Z' k → Z k ∨ w.heap.size ≤ k) : RowsA w n ak av ac ck cv cc Z' := by
 refine ⟨h.r, fun x hx hL hz => ?_, fun x hx hL hz => ?_, fun x hx hL hz => ?_⟩
 ·rcases hZ _ hz with h1 | h1
  ·exact h.zk x hx hL h1
  ·have := h.r.k.blk (fun e => hL (List.map_eq_nil_iff.1 e)) x hx; omega
 ·rcases hZ _ hz with h1 | h1
  ·exact h.zv x hx hL h1
  ·have := h.r.v.blk (fun e => hL (List.map_eq_nil_iff.1 e)) x hx; omega
 ·rcases hZ _ hz with h1 | h1
  ·exact h.zc x hx hL h1
  ·have := h.r.c.blk (fun e => hL (List.map_eq_nil_iff.1 e)) x hx; omega
theorem RowsA.mono {w : World} {n : Nod} {ak av ac : Option Addr} {ck cv cc : Nat} {Z Z' : Nat → Prop} (h : RowsA w n ak av ac ck cv cc Z) (hZ : ∀ k, Z' k → Z k) : RowsA w n ak av ac ck cv cc Z' := h.grow fun k hk => .inl (hZ k hk)
theorem RowsA.new {w : World} {n : Nod} {ak av ac : Option Addr} {ck cv cc lo : Nat} {Z : Nat → Prop} (h : NodR w n ak av ac ck cv cc) (h1 : ∀ x, ak = some x → lo ≤ x.block) (h2 : ∀ x, av = some x → lo ≤ x.block) (h3 : ∀ x, ac = some x → lo ≤ x.block) (hZ : ∀ k, Z k → k < lo) : RowsA w n ak av ac ck cv cc Z :=
 ⟨h, fun x hx _ hz => by have := h1 x hx; have := hZ _ hz; omega, fun x hx _ hz => by have := h2 x hx; have := hZ _ hz; omega, fun x hx _ hz => by have := h3 x hx; have := hZ _ hz; omega⟩
def stepOf (p i : Int) (fd : Bool) (M : Nod) (ak av ac : Option Addr) (ck cv cc : Nat) : StepV := ⟨p, i, fd, M.leaf, ak, M.K.length, ck, av, M.V.length, cv, ac, M.C.length, cc⟩
structure StepA (w : World) (x : StepV) (M : Nod) (Z : Nat → Prop) : Prop where
 a : RowsA w M x.ak x.av x.ac x.ck x.cv x.cc Z
 lf : x.lf = M.leaf
 lk : x.lk = M.K.length
 lv : x.lv = M.V.length
 lc : x.lc = M.C.length
 uk : Unf w x.ak
 uc : Unf w x.ac
 zk : ∀ y, x.ak = some y → ¬ Z y.block
 zc : ∀ y, x.ac = some y → ¬ Z y.block
theorem StepA.frm {w w' : World} {x : StepV} {M : Nod} {Z G : Nat → Prop} (h : StepA w x M Z) (hf : Frm G w w') (hG : ∀ k, G k → Z k) : StepA w' x M Z :=
 { h with
  a := h.a.frm hf hG
  uk := h.uk.frm hf fun y hy hg => h.zk y hy (hG _ hg)
  uc := h.uc.frm hf fun y hy hg => h.zc y hy (hG _ hg) }
theorem StepA.grow {w : World} {x : StepV} {M : Nod} {Z Z' : Nat → Prop} (h : StepA w x M Z) (hZ : ∀ k, Z' k → Z k ∨ w.heap.size ≤ k) : StepA w x M Z' :=
 { h with
  a := h.a.grow hZ
  zk := fun y hy hz => by rcases hZ _ hz with h1 | h1; exact h.zk y hy h1; have := (h.uk y hy).1; omega
  zc := fun y hy hz => by rcases hZ _ hz with h1 | h1; exact h.zc y hy h1; have := (h.uc y hy).1; omega }
def StepsA (w : World) (Z : Nat → Prop) : List StepV → List Frame → Nat → Prop
 | [], [], _ => True
 | x :: xs, f :: fs, hi => ∃ lo, StepA w x f.N Z ∧ x.p = f.page ∧ x.i = (f.KA.length : Int) ∧ (∀ y, x.ak = some y → lo ≤ y.block ∧ y.block < hi) ∧ (∀ y, x.ac = some y → lo ≤ y.block ∧ y.block < hi) ∧ lo ≤ hi ∧ StepsA w Z xs fs lo
 | _, _, _ => False
theorem StepsA.frm {w w' : World} {Z G : Nat → Prop} (hf : Frm G w w') (hG : ∀ k, G k → Z k) : ∀ (xs : List StepV) (fs : List Frame) (hi : Nat), StepsA w Z xs fs hi → StepsA w' Z xs fs hi := by
 intro xs
 induction xs with
 | nil => intro fs hi h; cases fs with | nil => trivial | cons f fs => exact h.elim
 | cons x xs ih =>
  intro fs hi h
  cases fs with
  | nil => exact h.elim
  | cons f fs =>
   obtain ⟨lo, h1, h2, h3, h4, h5, h6, h7⟩ := h;exact ⟨lo, h1.frm hf hG, h2, h3, h4, h5, h6, ih fs lo h7⟩
theorem StepsA.grow {w : World} {Z Z' : Nat → Prop} (hZ : ∀ k, Z' k → Z k ∨ w.heap.size ≤ k) : ∀ (xs : List StepV) (fs : List Frame) (hi : Nat), StepsA w Z xs fs hi → StepsA w Z' xs fs hi := by
 intro xs
 induction xs with
 | nil => intro fs hi h; cases fs with | nil => trivial | cons f fs => exact h.elim
 | cons x xs ih =>
  intro fs hi h
  cases fs with
  | nil => exact h.elim
  | cons f fs =>
   obtain ⟨lo, h1, h2, h3, h4, h5, h6, h7⟩ := h;exact ⟨lo, h1.grow hZ, h2, h3, h4, h5, h6, ih fs lo h7⟩
theorem StepsA.len {w : World} {Z : Nat → Prop} : ∀ (xs : List StepV) (fs : List Frame) (hi : Nat), StepsA w Z xs fs hi → xs.length = fs.length := by
 intro xs
 induction xs with
 | nil => intro fs hi h; cases fs with | nil => rfl | cons f fs => exact h.elim
 | cons x xs ih =>
  intro fs hi h
  cases fs with
  | nil => exact h.elim
  | cons f fs => obtain ⟨lo, _, _, _, _, _, _, h7⟩ := h; simp [ih fs lo h7]
structure Down (w : World) (d s g : Nat) (dk : DkS) (st : ShS) (r : Nat) (F : Nat → Prop) (F0 : List Mk) (P0 : List Int) (key : Int) (H : Nat) (v : Value) (w' : World) (fs : List Frame) (xs : List StepV) (x : StepV) (M : Nod) (i : Nat) (fd : Bool) (FL FR Fh : List Mk) (PC : List Int) (hi : Nat) : Prop where
 own : w'.ownsRow 0 183 7 v (xs.reverse ++ [x]).length (rowsV (xs.reverse ++ [x]))
 lo : ∀ k, v.ownBlock = some k → w.heap.size ≤ k
 ts : TS w' d s g dk st (r + H + 1) F
 fr : Frm (fun k => k = g) w w'
 st : StepsA w' (fun k => F k ∨ v.ownBlock = some k) xs fs hi
 rl : ∀ x ∈ xs, (∀ y, x.ak = some y → w.heap.size ≤ y.block) ∧ ∀ y, x.ac = some y → w.heap.size ≤ y.block
 hi : hi ≤ w'.heap.size
 lf : StepA w' x M (fun k => F k ∨ v.ownBlock = some k)
 xp : Rn dk x.p = some M
 xi : x.i = (i : Int)
 xf : x.fd = fd
 fn : findN M key = (i, fd)
 ctx : Ctx (Rn dk) fs 0 FL FR PC
 nt : NodT (Rn dk) 0 M Fh []
 eF : FL ++ Fh ++ FR = F0
 eP : (x.p :: PC).Perm P0
 bL : ∀ m ∈ FL, ordM m < 2 * key + 1
 bR : ∀ m ∈ FR, 2 * key + 1 < ordM m
 ln : fs.length = H
structure DownJ (w : World) (d s g : Nat) (dk : DkS) (st : ShS) (r : Nat) (F : Nat → Prop) (F0 : List Mk) (P0 : List Int) (key : Int) (H : Nat) (wr : World) (pg : Int) (hh : Nat) (fs : List Frame) (xs : List StepV) (FL FR Fh : List Mk) (PC Ph : List Int) (FW : Nat → Prop) (hi : Nat) : Prop where
 ts : TS wr d s g dk st (r + fs.length) F
 fr : Frm (fun k => k = g) w wr
 way : Way wr (w.heap.size + 1) xs.reverse FW
 wlo : ∀ k, FW k → w.heap.size + 1 ≤ k
 res : wr.heap[w.heap.size]? = some (.cells #[.slice none 0 0] 177)
 st : StepsA wr (fun k => F k ∨ FW k ∨ k = w.heap.size) xs fs hi
 rl : ∀ x ∈ xs, (∀ y, x.ak = some y → w.heap.size ≤ y.block) ∧ ∀ y, x.ac = some y → w.heap.size ≤ y.block
 hi : hi ≤ wr.heap.size
 ctx : Ctx (Rn dk) fs hh FL FR PC
 it : IsT (Rn dk) hh pg Fh Ph
 eF : FL ++ Fh ++ FR = F0
 eP : (PC ++ Ph).Perm P0
 bL : ∀ m ∈ FL, ordM m < 2 * key + 1
 bR : ∀ m ∈ FR, 2 * key + 1 < ordM m
 ln : fs.length + hh = H
theorem StepsA.hi {w : World} {Z : Nat → Prop} {hi hi' : Nat} (hh : hi ≤ hi') : ∀ (xs : List StepV) (fs : List Frame), StepsA w Z xs fs hi → StepsA w Z xs fs hi' := by
 intro xs fs h
 cases xs with
 | nil => cases fs with | nil => trivial | cons f fs => exact h.elim
 | cons x xs =>
  cases fs with
  | nil => exact h.elim
  | cons f fs =>
   obtain ⟨lo, h1, h2, h3, h4, h5, h6, h7⟩ := h;exact ⟨lo, h1, h2, h3, fun y hy => ⟨(h4 y hy).1, Nat.lt_of_lt_of_le (h4 y hy).2 hh⟩, fun y hy => ⟨(h5 y hy).1, Nat.lt_of_lt_of_le (h5 y hy).2 hh⟩, Nat.le_trans h6 hh, h7⟩
theorem StepsA.mono {w : World} {Z Z' : Nat → Prop} (hZ : ∀ k, Z' k → Z k) (xs : List StepV) (fs : List Frame) (hi : Nat) (h : StepsA w Z xs fs hi) : StepsA w Z' xs fs hi := StepsA.grow (fun k hk => .inl (hZ k hk)) xs fs hi h
structure DownS (w : World) (d s g : Nat) (dk : DkS) (st : ShS) (r : Nat) (F : Nat → Prop) (wr w4 : World) (n : Nat) (fs : List Frame) (xs : List StepV) (x : StepV) (M : Nod) (FW' : Nat → Prop) (hi : Nat) : Prop where
 ts : TS w4 d s g dk st (r + n + 1) F
 fr : Frm (fun k => k = g) w w4
 way : Way w4 (w.heap.size + 1) (xs.reverse ++ [x]) FW'
 wlo : ∀ k, FW' k → w.heap.size + 1 ≤ k
 res : w4.heap[w.heap.size]? = some (.cells #[.slice none 0 0] 177)
 st : StepsA w4 (fun k => F k ∨ FW' k ∨ k = w.heap.size) xs fs hi
 sx : StepA w4 x M (fun k => F k ∨ FW' k ∨ k = w.heap.size)
 ka : ∀ y, x.ak = some y → wr.heap.size ≤ y.block ∧ y.block < w4.heap.size
 kc : ∀ y, x.ac = some y → wr.heap.size ≤ y.block ∧ y.block < w4.heap.size
 sz : wr.heap.size ≤ w4.heap.size
 lo : hi ≤ wr.heap.size
theorem down_step {w : World} {d s g : Nat} {dk : DkS} {st : ShS} {r : Nat} {F : Nat → Prop} {F0 : List Mk} {P0 : List Int} {key : Int} {H : Nat} {wr : World} {pg : Int} {hh : Nat} {fs : List Frame} {xs : List StepV} {FL FR Fh : List Mk} {PC Ph : List Int} {FW FW' : Nat → Prop} {hi : Nat}
  (hL : ∀ k, F k → k < w.heap.size) (hg : g < w.heap.size) (hJ : DownJ w d s g dk st r F F0 P0 key H wr pg hh fs xs FL FR Fh PC Ph FW hi) {w1 w3 w4 : World} {M : Nod} {ak av ac : Option Addr} {ck cv cc : Nat} (hR : NodR w1 M ak av ac ck cv cc) (hq : (∀ x, ak = some x → wr.heap.size ≤ x.block) ∧ (∀ x, av = some x → wr.heap.size ≤ x.block) ∧ ∀ x, ac = some x → wr.heap.size ≤ x.block)
  (hu : Unf w1 ak ∧ Unf w1 ac) (hts : TS w1 d s g dk st (r + fs.length + 1) F) (hfr : Frm (fun k => k = g) wr w1) (hb : Below w1.heap.size w1 w3) (p i : Int) (fd : Bool)
  (hway : Way w4 (w.heap.size + 1) (xs.reverse ++ [stepOf p i fd M ak av ac ck cv cc]) FW') (hf4 : Frm FW w3 w4) (hn4 : ∀ k, FW' k → FW k ∨ w3.heap.size ≤ k) :
  DownS w d s g dk st r F wr w4 fs.length fs xs (stepOf p i fd M ak av ac ck cv cc) M FW' hi := by
 have hWlt : ∀ k, FW k → k < wr.heap.size := hJ.way.lt;have s1 := hfr.size;have s2 := hb.size;have s3 := hf4.size
 have hws : w.heap.size + 1 < wr.heap.size := by
  obtain ⟨v, hv, _⟩ := hJ.way;exact (Array.getElem?_eq_some_iff.1 hv.box).1
 have f13 : Frm (fun k => k = g) wr w3 := hfr.trans (G := fun _ => False) (Frm.of_below hb) (fun _ hx => hx.elim);have f4 : Frm (fun k => k = g ∨ FW k) wr w4 := (f13.mono (fun k hk => .inl hk)).trans hf4 (fun k hk => .inl (.inr hk));have Flt : ∀ k, F k → k < wr.heap.size := hJ.ts.lt;have inFW : ∀ k, FW' k → FW k ∨ wr.heap.size ≤ k := fun k hk => (hn4 k hk).imp id (fun h => by omega)
 have gF : F g := by obtain ⟨_, _, _, he⟩ := hJ.ts; exact (he g).2 (.inr (.inr rfl))
 have r3 := hR.below hb
 have grw : ∀ k, (F k ∨ FW k ∨ FW' k ∨ k = w.heap.size) → (F k ∨ FW k ∨ k = w.heap.size) ∨ w3.heap.size ≤ k := by
  rintro k (hk | hk | hk | hk)
  ·exact .inl (.inl hk)
  ·exact .inl (.inr (.inl hk))
  ·rcases hn4 k hk with h | h
   ·exact .inl (.inr (.inl h))
   ·exact .inr h
  ·exact .inl (.inr (.inr hk))
 have toZ : ∀ k, (F k ∨ FW' k ∨ k = w.heap.size) → (F k ∨ FW k ∨ FW' k ∨ k = w.heap.size) := by
  rintro k (hk | hk | hk)
  ·exact .inl hk
  ·exact .inr (.inr (.inl hk))
  ·exact .inr (.inr (.inr hk))
 have Zlt : ∀ k, (F k ∨ FW k ∨ k = w.heap.size) → k < wr.heap.size := by
  rintro k (hk | hk | hk)
  ·exact Flt k hk
  ·exact hWlt k hk
  ·omega
 have sx3 : StepA w3 (stepOf p i fd M ak av ac ck cv cc) M (fun k => F k ∨ FW k ∨ k = w.heap.size) :=
  {a := (RowsA.new (lo := wr.heap.size) hR hq.1 hq.2.1 hq.2.2 Zlt).below hb
   lf := rfl
   lk := rfl
   lv := rfl
   lc := rfl
   uk := hu.1.below hb
   uc := hu.2.below hb
   zk := fun y hy hz => by have := hq.1 y hy; have := Zlt _ hz; omega
   zc := fun y hy hz => by have := hq.2.2 y hy; have := Zlt _ hz; omega }
 refine ⟨?_, ?_, hway, ?_, ?_, ?_, ?_, ?_, ?_, by omega, hJ.hi⟩
 ·exact (hts.below hb).frm hf4 (fun k hk hw => by have := hL k hk; have := hJ.wlo k hw; omega)
 ·exact hJ.fr.trans f4 (fun k hk => by
   rcases hk with hk | hk
   ·exact .inl hk
   ·exact .inr (by have := hJ.wlo k hk; omega))
 ·intro k hk
  rcases inFW k hk with h | h
  ·exact hJ.wlo k h
  ·omega
 ·refine (f4.block _ (by omega) ?_).trans hJ.res
  rintro (h | h)
  ·omega
  ·have := hJ.wlo _ h; omega
 ·exact StepsA.mono toZ _ _ _ (StepsA.frm hf4 (fun k hk => .inr (.inl hk)) xs fs hi (StepsA.grow grw _ _ _ (StepsA.frm f13 (fun k hk => by subst hk; exact .inl gF) xs fs hi hJ.st)))
 ·exact (sx3.grow grw |>.frm hf4 (fun k hk => .inr (.inl hk))).grow (fun k hk => .inl (toZ k hk))
 ·intro y hy
  exact ⟨hq.1 y hy, by have := (hu.1 y hy).1; omega⟩
 ·intro y hy
  exact ⟨hq.2.2 y hy, by have := (hu.2 y hy).1; omega⟩
def readsG (g : Nat) (w : World) : Nat := match w.cell? ⟨g, 1, none⟩ with | some (.int _ n) => n.toNat | _ => 0
theorem readsG_of {w : World} {d s g r : Nat} {dk : DkS} {st : ShS} {F : Nat → Prop} (h : TS w d s g dk st r F) : readsG g w = r := by
 obtain ⟨FD, FS, hi, _⟩ := h;unfold readsG;rw [(vis_cells hi.v).2.1];simp
def DownPost (w : World) (d s g : Nat) (dk : DkS) (st : ShS) (r : Nat) (F : Nat → Prop) (F0 : List Mk) (P0 : List Int) (key : Int) (H : Nat) (e : Ending) (w' : World) : Prop :=
 ∃ v fs xs x M i fd FL FR Fh PC hi, e = .returned (.tuple #[.agg #[v], .int .i64 0]) ∧ Down w d s g dk st r F F0 P0 key H v w' fs xs x M i fd FL FR Fh PC hi
theorem down_next {w : World} {d s g : Nat} {dk : DkS} {st : ShS} {r : Nat} {F : Nat → Prop} {F0 : List Mk} {P0 : List Int} {key : Int} {H : Nat} {wr w4 : World} {pg : Int} {h : Nat} {fs : List Frame} {xs : List StepV} {FL FR Fh : List Mk} {PC Ph PM : List Int} {FW FW' : Nat → Prop} {hi i : Nat} {fd : Bool} {M : Nod} {ak av ac : Option Addr} {ck cv cc : Nat}
  (hs : SortM F0) (hJ : DownJ w d s g dk st r F F0 P0 key H wr pg (h + 1) fs xs FL FR Fh PC Ph FW hi) (m1 : Rn dk pg = some M) (m2 : M.K ≠ []) (m3 : NodT (Rn dk) (h + 1) M Fh PM) (m4 : Ph = pg :: PM) (hf : findN M key = (i, fd))
  (hS : DownS w d s g dk st r F wr w4 fs.length fs xs (stepOf pg (i : Int) fd M ak av ac ck cv cc) M FW' hi) :
  ∃ q, M.C[i]? = some q ∧ ∃ fs' FL' FR' Fh' PC' Ph' hi', fs'.length = fs.length + 1 ∧ DownJ w d s g dk st r F F0 P0 key H w4 q h fs' (stepOf pg (i : Int) fd M ak av ac ck cv cc :: xs) FL' FR' Fh' PC' Ph' FW' hi' := by
 have hs1 : SortM Fh := by
  have := hJ.eF;rw [← this] at hs;exact (SortM_append.1 (SortM_append.1 hs).1).2.1
 obtain ⟨f, q, f1, f2, f3, f4, f5, f6, f7, f8, f9, f10⟩ := ctx_down (fun p M h => Rn_right h) hJ.ctx m1 m2 m3 hs1 key;rw [hf] at f3;injection f3 with e1 e2;subst e1
 refine ⟨q.p, f4, f :: fs, _, _, q.F, _, q.P, w4.heap.size, rfl,
  {ts := hS.ts
   fr := hS.fr
   way := by rw [List.reverse_cons]; exact hS.way
   wlo := hS.wlo
   res := hS.res
   st := ⟨wr.heap.size, by rw [f2]; exact hS.sx, f1.symm, rfl, hS.ka, hS.kc, hS.sz, StepsA.hi hS.lo xs fs hS.st⟩
   rl := fun y hy => by
    have := hJ.fr.size
    rcases List.mem_cons.1 hy with rfl | hy
    ·exact ⟨fun z hz => by have := (hS.ka z hz).1; omega, fun z hz => by have := (hS.kc z hz).1; omega⟩
    ·exact hJ.rl y hy
   hi := Nat.le_refl _
   ctx := f6
   it := f5
   eF := ?_
   eP := ?_
   bL := fun m hm => (List.mem_append.1 hm).elim (hJ.bL m) (f8 m)
   bR := fun m hm => (List.mem_append.1 hm).elim (f9 m) (hJ.bR m)
   ln := by have := hJ.ln; rw [List.length_cons]; omega }⟩
 ·rw [← hJ.eF, f7]; simp
 ·refine List.Perm.trans ?_ hJ.eP
  rw [m4, f10];refine List.Perm.trans ?_ List.perm_middle.symm;rw [List.cons_append];refine List.Perm.cons _ ?_
  have e : (kPs f.A ++ kPs f.B ++ PC ++ q.P).Perm (PC ++ (kPs f.A ++ kPs f.B ++ q.P)) := by
   rw [List.append_assoc (kPs f.A ++ kPs f.B)];refine (List.perm_append_comm (l₁ := kPs f.A ++ kPs f.B) (l₂ := PC ++ q.P)).trans ?_;rw [List.append_assoc];exact List.Perm.append_left _ List.perm_append_comm
  refine e.trans (List.Perm.append_left _ ?_);rw [List.append_assoc, List.append_assoc];exact List.Perm.append_left _ List.perm_append_comm
theorem down_done {w : World} {d s g : Nat} {dk : DkS} {st : ShS} {r : Nat} {F : Nat → Prop} {F0 : List Mk} {P0 : List Int} {key : Int} {H : Nat} {wr w4 : World} {pg : Int} {fs : List Frame} {xs : List StepV} {FL FR Fh : List Mk} {PC Ph PM : List Int} {FW FW' : Nat → Prop} {hi i : Nat} {fd : Bool} {M : Nod} {ak av ac : Option Addr} {ck cv cc : Nat}
  (hg : g < w.heap.size) (hL : ∀ k, F k → k < w.heap.size) (hJ : DownJ w d s g dk st r F F0 P0 key H wr pg 0 fs xs FL FR Fh PC Ph FW hi) (m1 : Rn dk pg = some M) (m3 : NodT (Rn dk) 0 M Fh PM) (m4 : Ph = pg :: PM) (hf : findN M key = (i, fd))
  (hS : DownS w d s g dk st r F wr w4 fs.length fs xs (stepOf pg (i : Int) fd M ak av ac ck cv cc) M FW' hi) :
  ∃ va n vc, w4.heap[w.heap.size + 1]? = some (.cells #[.slice va n vc] 177) ∧ DownPost w d s g dk st r F F0 P0 key H (.returned (.tuple #[.agg #[.slice va n vc], .int .i64 0])) (w4.setCell ⟨w.heap.size, 0, none⟩ (.slice va n vc)) := by
 obtain ⟨v, hv, he⟩ := hS.way;obtain ⟨va, vc, rfl, _, _⟩ := own_shape7 hv.own;have fr5 : Frm (fun k => k = w.heap.size) w4 (w4.setCell ⟨w.heap.size, 0, none⟩ (.slice va (xs.reverse ++ [stepOf pg (i : Int) fd M ak av ac ck cv cc]).length vc)) := (Frm.refl _ w4).setCell _ _ (.inl rfl);have hPM : PM = [] := m3.2.2.2.2;have olo : ∀ k, (Value.slice va (xs.reverse ++ [stepOf pg (i : Int) fd M ak av ac ck cv cc]).length vc).ownBlock = some k → w.heap.size + 1 ≤ k := fun k hk => hS.wlo k ((he k).2 (.inr hk))
 have toZ : ∀ k, (F k ∨ (Value.slice va (xs.reverse ++ [stepOf pg (i : Int) fd M ak av ac ck cv cc]).length vc).ownBlock = some k) → (F k ∨ FW' k ∨ k = w.heap.size) := by
  rintro k (hk | hk)
  ·exact .inl hk
  ·exact .inr (.inl ((he k).2 (.inr hk)))
 have hln := hJ.ln
 refine ⟨va, _, vc, hv.box, _, fs, xs, stepOf pg (i : Int) fd M ak av ac ck cv cc, M, i, fd, FL, FR, Fh, PC, hi, rfl,
  {own := own_frmZ hv.own fr5 (fun k hk e => by have := olo k hk; omega)
   lo := fun k hk => by have := olo k hk; omega
   ts := by rw [show H = fs.length by omega]; exact hS.ts.frm fr5 (fun k hk e => by have := hL k hk; omega)
   fr := hS.fr.trans fr5 (fun k hk => .inr (by subst hk; exact Nat.le_refl _))
   st := StepsA.mono toZ _ _ _ (StepsA.frm fr5 (fun k hk => .inr (.inr hk)) xs fs hi hS.st)
   rl := hJ.rl
   hi := by simp [World.setCell]; have := hS.sz; have := hS.lo; omega
   lf := (hS.sx.frm fr5 (fun k hk => .inr (.inr hk))).grow (fun k hk => .inl (toZ k hk))
   xp := m1
   xi := rfl
   xf := rfl
   fn := hf
   ctx := hJ.ctx
   nt := by rw [← hPM]; exact m3
   eF := hJ.eF
   eP := ?_
   bL := hJ.bL
   bR := hJ.bR
   ln := by omega }⟩
 have := hJ.eP;rw [m4, hPM] at this;exact List.Perm.trans (show (pg :: PC).Perm (PC ++ [pg]) from by simpa using List.perm_append_comm (l₁ := [pg]) (l₂ := PC)) this
theorem down_is (w : World) (d s g : Nat) (dk : DkS) (st : ShS) (r : Nat) (F : Nat → Prop) (h : TS w d s g dk st r F) (G : Good dk st) (root : Int) (H : Nat) (F0 : List Mk) (P0 : List Int) (ht : IsT (Rn dk) H root F0 P0) (hs : SortM F0) (hH : H ≤ 9) (hr : r + H + 1 ≤ 640) (key : Int) (hk : 0 ≤ key ∧ key ≤ 18446744073709551615) :
  Calls Tryz.prog 122 #[.pointer (some ⟨g, 0, none⟩), .int .i64 root, .int .u64 key] w (DownPost w d s g dk st r F F0 P0 key H) := by
 have HL := Hd h.lt;have hg : g < w.heap.size := h.lt g (by obtain ⟨_, _, _, he⟩ := h; exact (he g).2 (.inr (.inr rfl)));obtain ⟨w0, hw0⟩ : ∃ w0, (w.alloc (.cells #[.slice none 0 0] 177)).alloc (.cells #[.slice none 0 0] 177) = w0 := ⟨_, rfl⟩
 have B0 : Below w.heap.size w w0 := by rw [← hw0]; exact ((Below.refl _ w).alloc (Nat.le_refl _) _).alloc (by simp) _
 have z0 : w0.heap.size = w.heap.size + 2 := by rw [← hw0]; simp
 have X0 : w0.heap[w.heap.size]? = some (.cells #[.slice none 0 0] 177) := by rw [← hw0]; exact (heap_alloc_old _ _ (by simp)).trans (heap_alloc_new w _)
 have Y0 : w0.heap[w.heap.size + 1]? = some (.cells #[.slice none 0 0] 177) := by
  rw [← hw0];have := heap_alloc_new (w.alloc (.cells #[.slice none 0 0] 177)) (.cells #[.slice none 0 0] 177);rw [World.size_alloc] at this;exact this
 have J0 : Hid (DownJ w d s g dk st r F F0 P0 key H w0 root H [] [] [] [] F0 [] P0 (WF (w.heap.size + 1) (.slice none 0 0)) w0.heap.size) := Hd
  {ts := h.below B0
   fr := Frm.of_below B0
   way := ⟨_, ⟨Y0, World.ownsRow_nil _ _ _ _, fun e => by cases e⟩, fun _ => Iff.rfl⟩
   wlo := fun k hk => by rcases hk with hk | hk; omega; cases hk
   res := X0
   st := trivial
   rl := fun x hx => by cases hx
   hi := Nat.le_refl _
   ctx := ⟨rfl, rfl, rfl⟩
   it := ht
   eF := by simp
   eP := List.Perm.refl _
   bL := fun m hm => by cases hm
   bR := fun m hm => by cases hm
   ln := by simp }
 have HS := Hd hs;have HG := Hd G;clear h ht hs B0 X0 Y0 z0 G;go_enter Tryz.func122, Tryz.ntmps122;go_wp2_with fail
 go_loopw [9] (fun p wr => ∃ pg hh fs xs FL FR Fh PC Ph FW hi, p = .int .i64 pg ∧ DownJ w d s g dk st r F F0 P0 key H wr pg hh fs xs FL FR Fh PC Ph FW hi) (fun _ wr => 641 - readsG g wr)
 case atStart =>
  try rw [hw0]
  exact ⟨root, H, [], [], [], [], F0, [], P0, _, _, rfl, J0.out⟩
 case round =>
  obtain ⟨pg, hh, fs, xs, FL, FR, Fh, PC, Ph, FW, hi, rfl, hJ⟩ := hrel;have hlen := StepsA.len _ _ _ hJ.st;obtain ⟨M, PM, m1, m2, m3, m4⟩ := hJ.it;have HJ := Hd hJ;have hln := hJ.ln;obtain ⟨n, hn⟩ : ∃ n, fs.length = n := ⟨_, rfl⟩
  have hnl : xs.reverse.length = n := by rw [← hn, List.length_reverse, hlen]
  have hd1 : (n : Int) + 1 ≤ 10 := by omega
  have WD := Hd (way_depth wr (w.heap.size + 1) xs.reverse FW hJ.way);rw [hnl] at WD;have hnb : n ≤ 9 := by omega
  have HN := Hd hn;have HNL := Hd hnl;have VN := Hd (vnode_is wr d s g dk st (r + fs.length) F hJ.ts HG.out.su (by omega) pg ((n : Int) + 1) hd1 M m1);have M1 := Hd m1;have M2 := Hd m2;have M3 := Hd m3;have M4 := Hd m4;rw [hn] at VN hln;clear hJ m1 m2 m3 m4 J0 hn hnl hlen;go_wp2_with fail;refine WD.out.mono ?_;rintro e w1 ⟨rfl, rfl⟩;go_wp2_with fail;refine VN.out.mono ?_;rintro e w1 ⟨⟨ak, av, ac, ck, cv, cc, rfl, hR, q1, q2, q3, u1, u2⟩, hts, hfr⟩
  obtain ⟨w2, hw2⟩ : ∃ w2, w1.alloc (.cells #[.bool M.leaf, .slice ak M.K.length ck, .slice av M.V.length cv, .slice ac M.C.length cc] 181) = w2 := ⟨_, rfl⟩
  have B2 : Below w1.heap.size w1 w2 := by rw [← hw2]; exact (Below.refl _ w1).alloc (Nat.le_refl _) _
  have N2 : w2.heap[w1.heap.size]? = some (.cells #[.bool M.leaf, .slice ak M.K.length ck, .slice av M.V.length cv, .slice ac M.C.length cc] 181) := by rw [← hw2]; exact heap_alloc_new w1 _
  obtain ⟨⟨i, fd⟩, hfi⟩ : ∃ z, findN M key = z := ⟨_, rfl⟩
  have FI := Hd (find_is M ak av ac ck cv cc w2 (hR.below B2) key i fd (Hd hfi));obtain ⟨n0, n1, n2, n3⟩ := cells4 N2;have HN2 := Hd N2;have HB2 := Hd B2;have HR := Hd hR;have HQ := Hd (And.intro q1 (And.intro q2 q3));have HU := Hd (And.intro u1 u2);have HT := Hd hts;have HFR := Hd hfr;have HFI := Hd hfi
  have HP : Hid (∀ w3, Below w2.heap.size w2 w3 → Calls Tryz.prog 147 #[.pointer (some ⟨w.heap.size + 1, 0, none⟩), (stepOf pg i fd M ak av ac ck cv cc).val] w3 (Void (WayPost w3 (w.heap.size + 1) (xs.reverse ++ [stepOf pg i fd M ak av ac ck cv cc]) FW))) := Hd (fun w3 b3 => by
   have f3 : Frm (fun k => k = g) wr w3 := (HFR.out.trans (G := fun _ => False) (Frm.of_below HB2.out) (fun _ hx => hx.elim)).trans (G := fun _ => False) (Frm.of_below b3) (fun _ hx => hx.elim);have hgw : ∀ k, FW k → ¬ k = g := fun k hk e => by have := HJ.out.wlo k hk; omega
   exact way_push w3 (w.heap.size + 1) xs.reverse FW (HJ.out.way.frm f3 hgw) _ (by rw [HNL.out]; omega))
  unfold nodV;clear hR q1 q2 q3 u1 u2 hts hfr N2 B2 hfi WD VN;simp only [stepOf, StepV.val] at HP;go_wp2_with fail;refine FI.out.mono ?_;rintro e w3 ⟨rfl, b3⟩;have N3 := kept HN2.out b3;have HB3 := Hd b3;have PU := Hd (HP.out w3 b3);obtain ⟨k0, k1, k2, k3⟩ := cells4 N3;have HN3 := Hd N3;clear n0 n1 n2 n3 N3 b3 HP;go_wp2_with fail;refine PU.out.mono ?_;rintro e w4 ⟨rfl, FW', hway, hf4, hn4⟩;have hS := down_step HL.out hg HJ.out HR.out HQ.out HU.out (by rw [HN.out]; exact HT.out) HFR.out (HB2.out.trans (HB3.out.mono HB2.out.size)) pg (i : Int) fd hway hf4 hn4;have hWlt := HJ.out.way.lt
  have N4 : w4.heap[w1.heap.size]? = some (.cells #[.bool M.leaf, .slice ak M.K.length ck, .slice av M.V.length cv, .slice ac M.C.length cc] 181) := by
   refine (hf4.block _ (Array.getElem?_eq_some_iff.1 HN3.out).1 (fun hk => ?_)).trans HN3.out;have := hWlt _ hk;have := HFR.out.size;omega
  obtain ⟨j0, j1, j2, j3⟩ := cells4 N4;have HN4 := Hd N4;have HS4 := Hd hS;clear hway hf4 hn4 hS hWlt N4 k0 k1 k2 k3 PU;have hlf : M.leaf = decide (hh = 0) := leaf_of M3.out
  cases hh with
  | zero =>
   simp only [decide_true] at hlf;obtain ⟨va, vn, vc, hbox, hpost⟩ := down_done hg HL.out HJ.out M1.out M3.out M4.out HFI.out HS4.out;have b0 := cells1 hbox;have hres := HS4.out.res;have rz0 := cells1 hres;have fz := ufb hres 0
   have rz : (w4.setCell ⟨w.heap.size, 0, none⟩ (.slice va vn vc)).cell? ⟨w.heap.size, 0, none⟩ = some (.slice va vn vc) := by
    have : (w4.setCell ⟨w.heap.size, 0, none⟩ (.slice va vn vc)).heap[w.heap.size]? = some (.cells #[.slice va vn vc] 177) := by rw [heap_setCell_same _ _ 0 _ _ _ hres]; rfl
    exact cells1 this
   have RZ := Hd rz;have FIN := Hd hpost;clear hbox hpost hres rz;go_wp2_with fail;exact bodyPost_ret (v := .tuple #[.agg #[.slice va vn vc], .int .i64 0]) (by simp [results, Tryz.results122, go_sem, RZ.out]) rfl FIN.out
  | succ h =>
   have hlf' : M.leaf = false := by rw [hlf]; simp
   clear hlf;obtain ⟨q, hq, fs', FL', FR', Fh', PC', Ph', hi', hl', hJ'⟩ := down_next HS.out HJ.out M1.out M2.out M3.out M4.out HFI.out HS4.out;obtain ⟨hic, hiq⟩ := List.getElem?_eq_some_iff.1 hq;obtain ⟨cb, coff, ca1, ca2, ca3⟩ := HS4.out.sx.a.r.c.at i (by simpa using hic);have ca4 : w4.cell? ⟨cb, coff + i, none⟩ = some (.int .i64 q) := by rw [ca3]; simp [ikid, hiq]
   have ca1' : ac = some ⟨cb, coff, none⟩ := ca1;have hil : (i : Int) < (M.C.length : Int) := by omega
   have FIN := Hd hJ';have HLN := Hd hl';subst ca1';clear ca1 ca3 hq hiq hJ' hl';generalize M.C.length = lc at *;go_wp2_with fail;go_roundw
   case rel => exact ⟨q, h, fs', _, FL', FR', Fh', PC', Ph', FW', hi', rfl, FIN.out⟩
   case measure =>
    have e1 := readsG_of FIN.out.ts;have e2 := readsG_of HJ.out.ts;have e3 := HLN.out;have e4 := HN.out;have e5 := FIN.out.ln;rw [e1, e2, e3];omega
theorem placed_of {dk : DkS} {st : ShS} (g : Good dk st) (j : Nat) (h2 : 2 ≤ j) (hj : (j : Int) < (dk.S.length : Int)) (hf : freeB st (j : Int) = true) (N : Nod) (hr : rightN N = true) (ho : NodOk N) :
  Placed dk st N ((st.take j).write dk (j : Int) 2 (encN N)).1 (st.take j) (j : Int) ∧ (∀ k, Room dk st (k + 1) → Room ((st.take j).write dk (j : Int) 2 (encN N)).1 (st.take j) k) ∧ ((st.take j).write dk (j : Int) 2 (encN N)).2.2 = 0 ∧ ((st.take j).write dk (j : Int) 2 (encN N)).2.1 = st.take j := by
 obtain ⟨t1, t2, t3, t4⟩ := take_good g j h2 hj hf;obtain ⟨w1, w2, w3, w4⟩ := write_good t1.g (j : Int) (by show _ ∈ st.fresh ++ [(j : Int)]; simp) N hr ho;have hw := g.few;refine ⟨⟨t1.trans w3, by rw [w4]; unfold updR; rw [if_pos rfl], fun L hL => ⟨⟨List.nodup_cons.2 ⟨fun hm => t2 ((hL.2 _).1 hm), hL.1⟩, fun x => ?_⟩, fun x hx => ?_⟩, by omega, by omega⟩, fun k hk => (room_to w3 k).2 (t4 k hk), w1, w2⟩
 ·rw [List.mem_cons, t3, hL.2]
 ·rw [w4]; unfold updR
  rw [if_neg];intro e; subst e; exact t2 ((hL.2 _).1 hx)
theorem laid_fresh {dk : DkS} {st : ShS} (g : Good dk st) (p : Int) (hp : p ∈ st.fresh) (N : Nod) (hr : rightN N = true) (ho : NodOk N) :
  Laid dk st p N (st.write dk p 2 (encN N)).1 st p ∧ (∀ k, Room dk st k → Room (st.write dk p 2 (encN N)).1 st k) ∧ (st.write dk p 2 (encN N)).2.2 = 0 ∧ (st.write dk p 2 (encN N)).2.1 = st := by
 obtain ⟨w1, w2, w3, w4⟩ := write_good g p hp N hr ho;have hb := g.fb p hp;have hw := g.few;refine ⟨⟨w3, by rw [w4]; unfold updR; rw [if_pos rfl], fun L hL => ⟨hL, fun x hx => ?_⟩, hb.1, by omega⟩, fun k hk => (room_to w3 k).2 hk, w1, w2⟩;rw [w4]; unfold updR;rw [if_neg];intro e; subst e;exact (List.nodup_cons.1 hL.1).1 hx
theorem given_of {dk : DkS} {st : ShS} (g : Good dk st) (p : Int) (hl : Live st p) : Given dk st p (st.give p).1 ∧ (st.give p).2 = 0 ∧ ∀ k, Room dk st k → Room dk (st.give p).1 k := by
 obtain ⟨a, b, c, d⟩ := give_good g p hl;refine ⟨⟨b, fun L hL => ⟨(List.nodup_cons.1 hL.1).2, fun x => ?_⟩⟩, a, d⟩;rw [c];constructor
 ·intro hx
  exact ⟨fun e => (List.nodup_cons.1 hL.1).1 (e ▸ hx), (hL.2 x).1 (List.mem_cons_of_mem _ hx)⟩
 ·rintro ⟨h1, h2⟩
  exact (List.mem_cons.1 ((hL.2 x).2 h2)).resolve_left h1
theorem laid_given {dk dk' : DkS} {st st0 st' : ShS} {p q : Int} {N : Nod} (hg : Given dk st p st0) (hp : Placed dk st0 N dk' st' q) : Laid dk st p N dk' st' q :=
 ⟨hg.tt.trans hp.tt, hp.rd, fun L hL => hp.lv L (hg.lv L hL), hp.lo, hp.hi⟩
theorem TSPost.ofDS {w w' : World} {d s g r : Nat} {dk dk' : DkS} {st st' : ShS} {F FD FS : Nat → Prop} (hi : TSIn w d s g dk st r FD FS) (he : ∀ k, F k ↔ FD k ∨ FS k ∨ k = g) (hp : DSPost w d s FD FS dk' st' w') : TSPost w d s g dk' st' r F w' := by
 obtain ⟨FD', h1, h2, h3⟩ := hp;have hg : g < w.heap.size := (Array.getElem?_eq_some_iff.1 hi.v).1;refine ⟨fun k => FD' k ∨ FS k ∨ k = g, ⟨FD', FS, ⟨h1, ?_, ?_, hi.gs⟩, fun _ => Iff.rfl⟩, h2.mono (fun k hk => (he k).2 (hk.imp id .inl)), fun k hk => ?_⟩
 ·exact (h2.block g hg (by rintro (h | h); exact hi.gd h; exact hi.gs h)).trans hi.v
 ·intro h
  rcases h3 g h with h | h
  ·exact hi.gd h
  ·omega
 ·rcases hk with hk | hk
  ·exact (h3 k hk).imp (fun h => (he k).2 (.inl h)) id
  ·exact .inl ((he k).2 (.inr hk))
theorem TSPost.chain {w w1 w2 : World} {d s g r : Nat} {dk : DkS} {st : ShS} {F : Nat → Prop} (b : Below w.heap.size w w1) (h : TSPost w1 d s g dk st r F w2) : TSPost w d s g dk st r F w2 :=
 TSPost.trans (F1 := F) b.size (Frm.of_below b) (fun k hk => .inl hk) h
theorem vwrite_is (w : World) (d s g : Nat) (dk : DkS) (st : ShS) (r : Nat) (F : Nat → Prop) (h : TS w d s g dk st r F) (p : Int) (N : Nod) (hr : rightN N = true) (ak av ac : Option Addr) (ck cv cc : Nat) (hN : NodR w N ak av ac ck cv cc) (he0 : (st.write dk p 2 (encN N)).2.2 = 0) (he1 : (st.write dk p 2 (encN N)).2.1 = st) :
  Calls Tryz.prog 169 #[.pointer (some ⟨g, 0, none⟩), .int .i64 p, nodV N ak av ac ck cv cc] w fun e w' => e = .returned (.int .i64 0) ∧ TSPost w d s g (st.write dk p 2 (encN N)).1 st r F w' := by
 obtain ⟨w1, hw1⟩ : ∃ w1, w.alloc (.cells #[.bool N.leaf, .slice ak N.K.length ck, .slice av N.V.length cv, .slice ac N.C.length cc] 181) = w1 := ⟨_, rfl⟩
 have B1 : Below w.heap.size w w1 := by rw [← hw1]; exact (Below.refl _ w).alloc (Nat.le_refl _) _
 have X1 : w1.heap[w.heap.size]? = some (.cells #[.bool N.leaf, .slice ak N.K.length ck, .slice av N.V.length cv, .slice ac N.C.length cc] 181) := by rw [← hw1]; exact heap_alloc_new w _
 obtain ⟨x0, x1, x2, x3⟩ := cells4 X1;have EN := Hd (encode_yes N ak av ac ck cv cc w1 (hN.below B1) hr);have HT := Hd h;have HB := Hd B1
 have WR : Hid (∀ w2, Below w.heap.size w w2 → w2.cell? ⟨g, 0, none⟩ = some (.pointer (some ⟨s, 0, none⟩)) ∧ Calls Tryz.prog 191 #[.pointer (some ⟨s, 0, none⟩), .int .i64 p, .int .i64 2, .string (encN N)] w2 fun e w' => e = .returned (.int .i64 0) ∧ TSPost w d s g (st.write dk p 2 (encN N)).1 st r F w') := Hd (fun w2 b2 => by
  obtain ⟨FD, FS, hi, he⟩ := HT.out.below b2;refine ⟨(vis_cells hi.v).1, (stowrite_is w2 d s dk st FD FS hi.ds p 2 (encN N)).mono fun e w' hq => ?_⟩;rw [he0, he1] at hq;exact ⟨hq.1, TSPost.chain b2 (TSPost.ofDS hi he hq.2)⟩)
 clear h B1 X1 he0 he1 hN;generalize (st.write dk p 2 (encN N)).1 = dk' at *;generalize encN N = tx at *;unfold nodV at *;go_enter Tryz.func169, Tryz.ntmps169;go_wp2_with fail;refine EN.out.mono ?_;rintro e w2 ⟨rfl, b2⟩;obtain ⟨v0, W2⟩ := WR.out w2 (HB.out.trans (b2.mono HB.out.size));have HW := Hd W2;clear b2 W2;go_wp2_with fail;refine HW.out.mono ?_;rintro e w3 ⟨rfl, hp⟩;have HP := Hd hp;clear hp;go_wp2_with fail;go_ret;exact ⟨rfl, HP.out⟩
def PutOn (w : World) (d s g : Nat) (dk : DkS) (st : ShS) (r : Nat) (F : Nat → Prop) (P : DkS → ShS → Int → Prop) (m : Nat) (e : Ending) (w' : World) : Prop :=
 ∃ q dk' st', e = .returned (.tuple #[.int .i64 q, .int .i64 0]) ∧ TSPost w d s g dk' st' r F w' ∧ P dk' st' q ∧ ∀ k, Room dk st (k + m) → Room dk' st' k
theorem vplace_is (w : World) (d s g : Nat) (dk : DkS) (st : ShS) (r : Nat) (F : Nat → Prop) (h : TS w d s g dk st r F) (G : Good dk st) (hroom : Room dk st 1) (N : Nod) (hr : rightN N = true) (ak av ac : Option Addr) (ck cv cc : Nat) (hN : RowsA w N ak av ac ck cv cc F) :
  Calls Tryz.prog 142 #[.pointer (some ⟨g, 0, none⟩), nodV N ak av ac ck cv cc] w (PutOn w d s g dk st r F (Placed dk st N) 1) := by
 obtain ⟨j, h2, hj, hall, hf⟩ := free_least G hroom;obtain ⟨P1, P2, P3, P4⟩ := placed_of G j h2 hj hf N hr hN.r.ok;obtain ⟨w1, hw1⟩ : ∃ w1, w.alloc (.cells #[.bool N.leaf, .slice ak N.K.length ck, .slice av N.V.length cv, .slice ac N.C.length cc] 181) = w1 := ⟨_, rfl⟩
 have B1 : Below w.heap.size w w1 := by rw [← hw1]; exact (Below.refl _ w).alloc (Nat.le_refl _) _
 have X1 : w1.heap[w.heap.size]? = some (.cells #[.bool N.leaf, .slice ak N.K.length ck, .slice av N.V.length cv, .slice ac N.C.length cc] 181) := by rw [← hw1]; exact heap_alloc_new w _
 have HLT := Hd h.lt;have T1 := h.below B1;obtain ⟨FD, FS, hi, he⟩ := T1;have v0 := (vis_cells hi.v).1
 have TK : Hid (Calls Tryz.prog 168 #[.pointer (some ⟨s, 0, none⟩)] w1 fun e w' => e = .returned (.tuple #[.int .i64 (j : Int), .int .i64 0]) ∧ TSPost w d s g dk (st.take j) r F w' ∧ w'.heap[w.heap.size]? = some (.cells #[.bool N.leaf, .slice ak N.K.length ck, .slice av N.V.length cv, .slice ac N.C.length cc] 181) ∧ NodR w' N ak av ac ck cv cc) := Hd (by
  refine (stoTake_yes w1 s d dk st FD FS hi.ds.dk hi.ds.sto G.su j h2 hj hall hf).mono fun e w' ⟨q1, q2, q3⟩ => ⟨q1, TSPost.chain B1 (TSPost.ofDS hi he (DSPost.store hi.ds q3 q2)), ?_, ?_⟩
  ·refine (q3.block _ (Array.getElem?_eq_some_iff.1 X1).1 (fun hk => ?_)).trans X1
   have := HLT.out _ ((he _).2 (.inr (.inl hk))); omega
  ·exact ((hN.below B1).frm q3 (fun k hk => (he k).2 (.inr (.inl hk)))).r)
 have WR : Hid (∀ w2, TSPost w d s g dk (st.take j) r F w2 → NodR w2 N ak av ac ck cv cc → Calls Tryz.prog 169 #[.pointer (some ⟨g, 0, none⟩), .int .i64 (j : Int), nodV N ak av ac ck cv cc] w2 fun e w' => e = .returned (.int .i64 0) ∧ PutOn w d s g dk st r F (Placed dk st N) 1 (.returned (.tuple #[.int .i64 (j : Int), .int .i64 0])) w') := Hd (fun w2 hp hn => by
  obtain ⟨F', t1, t2, t3⟩ := hp;refine (vwrite_is w2 d s g dk (st.take j) r F' t1 (j : Int) N hr ak av ac ck cv cc hn P3 P4).mono fun e w' hq => ⟨hq.1, (j : Int), _, _, rfl, TSPost.trans t2.size t2 t3 hq.2, P1, fun k hk => P2 k hk⟩)
 clear h hi he hN X1 B1 P1 P2 P3 P4 hall hf h2 hj;unfold nodV at *;go_enter Tryz.func142, Tryz.ntmps142;go_wp2_with fail;refine TK.out.mono ?_;rintro e w2 ⟨rfl, hp, hx, hn⟩;have W2 := Hd (WR.out w2 hp hn);obtain ⟨F', ⟨FD', FS', hi', he'⟩, t2, t3⟩ := hp;have v0' := (vis_cells hi'.v).1;obtain ⟨x0, x1, x2, x3⟩ := cells4 hx;clear hi' he' t2 t3 hx hn v0;go_wp2_with fail;refine W2.out.mono ?_;rintro e w3 ⟨rfl, hq⟩;have FIN := Hd hq;clear hq;go_wp2_with fail;go_ret2;exact FIN.out
theorem vlay_is (w : World) (d s g : Nat) (dk : DkS) (st : ShS) (r : Nat) (F : Nat → Prop) (h : TS w d s g dk st r F) (G : Good dk st) (p : Int) (hlive : Live st p) (hroom : Room dk st 1) (N : Nod) (hr : rightN N = true) (ak av ac : Option Addr) (ck cv cc : Nat) (hN : RowsA w N ak av ac ck cv cc F) :
  Calls Tryz.prog 173 #[.pointer (some ⟨g, 0, none⟩), .int .i64 p, nodV N ak av ac ck cv cc] w (PutOn w d s g dk st r F (Laid dk st p N) 1) := by
 obtain ⟨w1, hw1⟩ : ∃ w1, w.alloc (.cells #[.bool N.leaf, .slice ak N.K.length ck, .slice av N.V.length cv, .slice ac N.C.length cc] 181) = w1 := ⟨_, rfl⟩
 have B1 : Below w.heap.size w w1 := by rw [← hw1]; exact (Below.refl _ w).alloc (Nat.le_refl _) _
 have X1 : w1.heap[w.heap.size]? = some (.cells #[.bool N.leaf, .slice ak N.K.length ck, .slice av N.V.length cv, .slice ac N.C.length cc] 181) := by rw [← hw1]; exact heap_alloc_new w _
 have HLT := Hd h.lt;have T1 := h.below B1;obtain ⟨FD, FS, hi, he⟩ := T1;have v0 := (vis_cells hi.v).1;have FR := Hd (fresh_is w1 s d st FS hi.ds.sto p);have HX := Hd X1;have HB := Hd B1;have HT := Hd h;have HN := Hd hN;have HG := Hd G
 have hp64 : p < 9223372036854775808 ∧ (hasB st.h.used p = true → 2 ≤ p ∧ p < 640) := by
  have := G.few
  rcases hlive with hx | hx
  ·have := G.fb p hx; exact ⟨by omega, fun h1 => by rw [(G.fb p hx).2.2] at h1; cases h1⟩
  ·have := G.ub p hx.1; exact ⟨by omega, fun _ => by omega⟩
 by_cases hf : p ∈ st.fresh
 ·have hdec : decide (p ∈ st.fresh) = true := decide_eq_true hf
  rw [hdec] at FR;obtain ⟨P1, P2, P3, P4⟩ := laid_fresh G p hf N hr hN.r.ok
  have WR : Hid (∀ w2, Below w1.heap.size w1 w2 → w2.cell? ⟨g, 0, none⟩ = some (.pointer (some ⟨s, 0, none⟩)) ∧ Calls Tryz.prog 169 #[.pointer (some ⟨g, 0, none⟩), .int .i64 p, nodV N ak av ac ck cv cc] w2 fun e w' => e = .returned (.int .i64 0) ∧ PutOn w d s g dk st r F (Laid dk st p N) 1 (.returned (.tuple #[.int .i64 p, .int .i64 0])) w') := Hd (fun w2 b2 => by
   have b := HB.out.trans (b2.mono HB.out.size);refine ⟨?_, ?_⟩
   ·obtain ⟨_, _, hi2, _⟩ := HT.out.below b
    exact (vis_cells hi2.v).1
   ·refine (vwrite_is w2 d s g dk st r F (HT.out.below b) p N hr ak av ac ck cv cc (HN.out.r.below b) P3 P4).mono fun e w' hq => ⟨hq.1, p, _, _, rfl, TSPost.chain b hq.2, P1, fun k hk => P2 k (hk.le (by omega))⟩)
  clear h hi he hN X1 B1 P1 P2 P3 P4 hdec HT HN HB HG hlive hp64 G;unfold nodV at *;go_enter Tryz.func173, Tryz.ntmps173;go_wp2_with fail;refine FR.out.mono ?_;rintro e w2 ⟨rfl, b2⟩;obtain ⟨v1, W2⟩ := WR.out w2 b2;have HW := Hd W2;obtain ⟨x0, x1, x2, x3⟩ := cells4 (kept HX.out b2);clear W2 b2 v0;go_wp2_with fail;refine HW.out.mono ?_;rintro e w3 ⟨rfl, hq⟩;have FIN := Hd hq;clear hq;go_wp2_with fail;go_ret2;exact FIN.out
 ·have hdec : decide (p ∈ st.fresh) = false := decide_eq_false hf
  rw [hdec] at FR;obtain ⟨q1, q2, q3⟩ := given_of G p hlive
  have GV : Hid (∀ w2, Below w1.heap.size w1 w2 → w2.cell? ⟨g, 0, none⟩ = some (.pointer (some ⟨s, 0, none⟩)) ∧ Calls Tryz.prog 195 #[.pointer (some ⟨s, 0, none⟩), .int .i64 p] w2 fun e w' => e = .returned (.int .i64 0) ∧ TSPost w d s g dk (st.give p).1 r F w' ∧ w'.heap[w.heap.size]? = some (.cells #[.bool N.leaf, .slice ak N.K.length ck, .slice av N.V.length cv, .slice ac N.C.length cc] 181) ∧ RowsA w' N ak av ac ck cv cc F) := Hd (fun w2 b2 => by
   have b := HB.out.trans (b2.mono HB.out.size);obtain ⟨FD2, FS2, hi2, he2⟩ := HT.out.below b;refine ⟨(vis_cells hi2.v).1, (give_is w2 s d st FS2 hi2.ds.sto p hp64.1 hp64.2).mono fun e w' ⟨r1, r2, r3⟩ => ⟨by rw [r1, q2], TSPost.chain b (TSPost.ofDS hi2 he2 (DSPost.store hi2.ds r3 r2)), ?_, (HN.out.below b).frm r3 (fun k hk => (he2 k).2 (.inr (.inl hk)))⟩⟩;refine (r3.block _ (Nat.lt_of_lt_of_le (Array.getElem?_eq_some_iff.1 HX.out).1 b2.size) (fun hk => ?_)).trans (kept HX.out b2);have := HLT.out _ ((he2 _).2 (.inr (.inl hk))); omega)
  have PL : Hid (∀ w3, TSPost w d s g dk (st.give p).1 r F w3 → RowsA w3 N ak av ac ck cv cc F → w3.cell? ⟨g, 0, none⟩ = some (.pointer (some ⟨s, 0, none⟩)) ∧ Calls Tryz.prog 142 #[.pointer (some ⟨g, 0, none⟩), nodV N ak av ac ck cv cc] w3 (PutOn w d s g dk st r F (Laid dk st p N) 1)) := Hd (fun w3 hp hn => by
   obtain ⟨F', t1, t2, t3⟩ := hp;refine ⟨?_, ?_⟩
   ·obtain ⟨_, _, hi2, _⟩ := t1
    exact (vis_cells hi2.v).1
   ·have hz := HN.out.grow t3
    have hn' : RowsA w3 N ak av ac ck cv cc F' := ⟨hn.r, hz.zk, hz.zv, hz.zc⟩
    refine (vplace_is w3 d s g dk (st.give p).1 r F' t1 q1.tt.g (q3 1 hroom) N hr ak av ac ck cv cc hn').mono ?_;rintro e w' ⟨q, dk', st', z1, z2, z3, z4⟩;exact ⟨q, dk', st', z1, TSPost.trans t2.size t2 t3 z2, laid_given q1 z3, fun k hk => z4 k (q3 _ hk)⟩)
  clear h hi he hN X1 B1 hdec HT HN HB HG hlive hp64 G q1 q2 q3;unfold nodV at *;go_enter Tryz.func173, Tryz.ntmps173;go_wp2_with fail;refine FR.out.mono ?_;rintro e w2 ⟨rfl, b2⟩;obtain ⟨v1, W2⟩ := GV.out w2 b2;have HW := Hd W2;clear W2 b2 v0;go_wp2_with fail;refine HW.out.mono ?_;rintro e w3 ⟨rfl, hp, hx, hn⟩;obtain ⟨v2, W3⟩ := PL.out w3 hp hn;have HW3 := Hd W3;obtain ⟨x0, x1, x2, x3⟩ := cells4 hx;clear W3 hp hx hn v1;go_wp2_with fail;refine HW3.out.mono ?_;rintro e w4 hq;obtain ⟨q, dk', st', rfl, z2, z3, z4⟩ := hq
  have FIN : Hid (PutOn w d s g dk st r F (Laid dk st p N) 1 (.returned (.tuple #[.int .i64 q, .int .i64 0])) w4) := Hd ⟨q, dk', st', rfl, z2, z3, z4⟩;clear z2 z3 z4;go_wp2_with fail;go_ret2;exact FIN.out
theorem many_keys {N : Nod} (hw : wholeB N = true) (hv : ∀ v ∈ N.V, v.size ≤ 40) (hz : 240 < sizeN N) : leastN N.leaf ≤ N.K.length := by
 cases hl : N.leaf with
 | true =>
  have h1 := (wholeB_leaf hl).1 hw;have h2 := bytesV_le N.V 40 hv;unfold sizeN at hz;rw [hl] at hz;simp only [if_true] at hz
  show 2 ≤ _
  omega
 | false =>
  have h1 := (wholeB_branch hl).1 hw;unfold sizeN at hz;rw [hl] at hz;simp only [Bool.false_eq_true, if_false] at hz
  show 3 ≤ _
  omega
theorem parts_right {dk : DkS} {st : ShS} {fs : List Frame} {h : Nat} {p : Int} {N : Nod} {E : List Ent} (ha : AtI dk st fs h p N E) (hb : NB N 320) (hl : leastN N.leaf ≤ N.K.length) : rightN (aheadN N (cutN N)) = true ∧ rightN (behindN N (cutN N)) = true := by
 have hw := ha.whole;obtain ⟨FL, FR, PC, F, P, h1, h2, h3, h4, h5⟩ := ha;obtain ⟨mid, FA, FB, PA, PB, s1, s2, s3, s4, s5, s6, s7, s8⟩ := split_T h2 hl;obtain ⟨z1, z2⟩ := cut_sizes N hw hb.1 hl hb.2.2;have hs := (SortM_append.1 (SortM_append.1 (s8 FL FR h3)).1).2.1;obtain ⟨t1, t2, _⟩ := SortM_append.1 hs;have t2' := (SortM_cons.1 t2).2;refine ⟨right_of s2 t1 (fun v hv => ?_) (fun c hc => ?_) s4 z1, right_of s3 t2' (fun v hv => ?_) (fun c hc => ?_) s5 z2⟩
 ·refine hb.1 v ?_
  unfold aheadN at hv
  split at hv
  ·exact List.mem_of_mem_take hv
  ·cases hv
 ·refine hb.2.1 c ?_
  unfold aheadN at hc
  split at hc
  ·cases hc
  ·exact List.mem_of_mem_take hc
 ·refine hb.1 v ?_
  unfold behindN at hv
  split at hv
  ·exact List.mem_of_mem_drop hv
  ·cases hv
 ·refine hb.2.1 c ?_
  unfold behindN at hc
  split at hc
  ·cases hc
  ·exact List.mem_of_mem_drop hc
def Grown (w : World) (d s g : Nat) (dk : DkS) (st : ShS) (r : Nat) (F : Nat → Prop) (fs : List Frame) (h : Nat) (E : List Ent) (e : Ending) (w' : World) : Prop :=
 ∃ g1 g2 g3 KM QM dk' st', e = .returned (.tuple #[.agg #[.int .i64 g1, .int .i64 g2, .int .u64 g3], .int .i64 0]) ∧ TSPost w d s g dk' st' r F w' ∧ UpI dk' st' fs h KM QM E ∧ GR g1 g2 g3 KM QM ∧ To dk st dk' st' ∧ (∀ k, Room dk st (k + 2) → Room dk' st' k) ∧ 0 ≤ g3 ∧ g3 ≤ 18446744073709551615
def grO (a b c : Int) : Obj := .cells #[.int .i64 a, .int .i64 b, .int .u64 c] 211
theorem gr_cells {w : World} {b : Nat} {x y z : Int} (h : w.heap[b]? = some (grO x y z)) : w.cell? ⟨b, 0, none⟩ = some (.int .i64 x) ∧ w.cell? ⟨b, 1, none⟩ = some (.int .i64 y) ∧ w.cell? ⟨b, 2, none⟩ = some (.int .u64 z) ∧ w.frozen? ⟨b, 0, none⟩ = false ∧ w.frozen? ⟨b, 1, none⟩ = false ∧ w.frozen? ⟨b, 2, none⟩ = false := by
 unfold grO at h;exact ⟨by rw [Go.Joins.cell_of_block h]; rfl, by rw [Go.Joins.cell_of_block h]; rfl, by rw [Go.Joins.cell_of_block h]; rfl, ufb h 0, ufb h 1, ufb h 2⟩
theorem gr_set0 {w : World} {b : Nat} {x y z : Int} (h : w.heap[b]? = some (grO x y z)) (v : Int) : (w.setCell ⟨b, 0, none⟩ (.int .i64 v)).heap[b]? = some (grO v y z) := by
 unfold grO at *; rw [heap_setCell_same _ _ 0 _ _ _ h]; rfl
theorem gr_set1 {w : World} {b : Nat} {x y z : Int} (h : w.heap[b]? = some (grO x y z)) (v : Int) : (w.setCell ⟨b, 1, none⟩ (.int .i64 v)).heap[b]? = some (grO x v z) := by
 unfold grO at *; rw [heap_setCell_same _ _ 1 _ _ _ h]; rfl
theorem gr_set2 {w : World} {b : Nat} {x y z : Int} (h : w.heap[b]? = some (grO x y z)) (v : Int) : (w.setCell ⟨b, 2, none⟩ (.int .u64 v)).heap[b]? = some (grO x y v) := by
 unfold grO at *; rw [heap_setCell_same _ _ 2 _ _ _ h]; rfl
def put3 (w : World) (b : Nat) (x y z : Int) : World := ((w.setCell ⟨b, 0, none⟩ (.int .i64 x)).setCell ⟨b, 1, none⟩ (.int .i64 y)).setCell ⟨b, 2, none⟩ (.int .u64 z)
theorem put3_block {w : World} {b : Nat} {x y z x' y' z' : Int} (h : w.heap[b]? = some (grO x' y' z')) : (put3 w b x y z).heap[b]? = some (grO x y z) := gr_set2 (gr_set1 (gr_set0 h x) y) z
theorem put3_frm {F : Nat → Prop} {w w1 : World} (h : Frm F w w1) (b : Nat) (x y z : Int) (hb : F b ∨ w.heap.size ≤ b) : Frm F w (put3 w1 b x y z) := ((h.setCell _ _ hb).setCell _ _ hb).setCell _ _ hb
theorem vgrow_is (w : World) (d s g : Nat) (dk : DkS) (st : ShS) (r : Nat) (F : Nat → Prop) (h : TS w d s g dk st r F) (G : Good dk st) (hroom : Room dk st 2) (fs : List Frame) (hh : Nat) (p : Int) (N : Nod) (E : List Ent) (ha : AtI dk st fs hh p N E) (hb : NB N 320) (hk : N.K ≠ []) (ak av ac : Option Addr) (ck cv cc : Nat) (hN : RowsA w N ak av ac ck cv cc F) :
  Calls Tryz.prog 144 #[.pointer (some ⟨g, 0, none⟩), .int .i64 p, nodV N ak av ac ck cv cc] w (Grown w d s g dk st r F fs hh E) := by
 obtain ⟨w2, hw2⟩ : ∃ w2, (w.alloc (.cells #[.bool N.leaf, .slice ak N.K.length ck, .slice av N.V.length cv, .slice ac N.C.length cc] 181)).alloc (.cells #[.int .i64 0, .int .i64 0, .int .u64 0] 211) = w2 := ⟨_, rfl⟩
 have B2 : Below w.heap.size w w2 := by rw [← hw2]; exact ((Below.refl _ w).alloc (Nat.le_refl _) _).alloc (by simp) _
 have X2 : w2.heap[w.heap.size]? = some (.cells #[.bool N.leaf, .slice ak N.K.length ck, .slice av N.V.length cv, .slice ac N.C.length cc] 181) := by rw [← hw2]; exact (heap_alloc_old _ _ (by simp)).trans (heap_alloc_new w _)
 have Y2 : w2.heap[w.heap.size + 1]? = some (grO 0 0 0) := by
  rw [← hw2];have := heap_alloc_new (w.alloc (.cells #[.bool N.leaf, .slice ak N.K.length ck, .slice av N.V.length cv, .slice ac N.C.length cc] 181)) (.cells #[.int .i64 0, .int .i64 0, .int .u64 0] 211);rw [World.size_alloc] at this;exact this
 have z2 : w2.heap.size = w.heap.size + 2 := by rw [← hw2]; simp
 have HL := Hd h.lt;obtain ⟨x0, x1, x2, x3⟩ := cells4 X2;have hw := ha.whole;obtain ⟨z, hz⟩ : ∃ z, sizeN N = z := ⟨_, rfl⟩
 have SZ := Hd (size_is N ak av ac ck cv cc w2 (hN.r.below B2) z (Hd hz) hw);have HA := Hd ha;have HN := Hd hN;have HB := Hd B2;have HX := Hd X2;have HY := Hd Y2;have HT := Hd h;have HG := Hd G;have HNB := Hd hb;have HK := Hd hk;have HZ := Hd hz;have HW := Hd hw
 by_cases hs : z ≤ 240
 ·have hr := ha.right ⟨hb.1, hb.2.1, by omega⟩ hk
  have LY : Hid (∀ w3, Below w2.heap.size w2 w3 → Calls Tryz.prog 173 #[.pointer (some ⟨g, 0, none⟩), .int .i64 p, nodV N ak av ac ck cv cc] w3 fun e w4 => ∃ q, e = .returned (.tuple #[.int .i64 q, .int .i64 0]) ∧ w4.heap[w.heap.size + 1]? = some (grO 0 0 0) ∧ ∀ w5, Frm (fun k => k = w.heap.size + 1) w4 w5 → Grown w d s g dk st r F fs hh E (.returned (.tuple #[.agg #[.int .i64 q, .int .i64 0, .int .u64 0], .int .i64 0])) w5) := Hd (fun w3 b3 => by
   have b := HB.out.trans (b3.mono HB.out.size);have s3 := b3.size;refine (vlay_is w3 d s g dk st r F (HT.out.below b) HG.out p HA.out.live (hroom.le (by omega)) N hr ak av ac ck cv cc (HN.out.below b)).mono ?_;rintro e w4 ⟨q, dk', st', rfl, ⟨F', t1, t2, t3⟩, hl, hrm⟩;refine ⟨q, rfl, (t2.block _ (by omega) (fun hx => by have := HL.out _ hx; omega)).trans (kept HY.out b3), fun w5 f5 => ?_⟩;obtain ⟨QM, u1, u2⟩ := lay_one HA.out HK.out hl
   refine ⟨q, 0, 0, [], QM, dk', st', rfl, ⟨F', t1.frm f5 (fun k hk e => ?_), ?_, fun k hk => ?_⟩, u1, u2, hl.tt, fun k hk => (hrm (k + 1) hk).le (by omega), by decide, by decide⟩
   ·subst e
    rcases t3 _ hk with h1 | h1
    ·have := HL.out _ h1; omega
    ·omega
   ·have f3 : Frm F w w3 := Frm.of_below b
    exact (f3.trans t2 (fun k hk => .inl hk)).trans f5 (fun k hk => .inr (by subst hk; omega))
   ·rcases t3 k hk with h1 | h1
    ·exact .inl h1
    ·exact .inr (by omega))
  have hs' : (z : Int) ≤ 240 := by omega
  clear h G ha hb hk hN hr hw hz B2 X2 Y2 HT HG HA HNB HK HZ HW HN HB hroom;unfold nodV at *;go_enter Tryz.func144, Tryz.ntmps144;go_wp2_with fail;refine SZ.out.mono ?_;rintro e w3 ⟨rfl, b3⟩;have L3 := Hd (LY.out w3 b3);obtain ⟨y0, y1, y2, y3⟩ := cells4 (kept HX.out b3);clear b3 x0 x1 x2 x3;go_wp2_with fail;refine L3.out.mono ?_;rintro e w4 ⟨q, rfl, hy, hfin⟩;obtain ⟨c0, c1, c2, f0, f1, f2⟩ := gr_cells hy;have hy5 := gr_set0 hy q;have HFIN := Hd hfin;have HY4 := Hd hy;go_upto_region 3 with fail
  have F5 : Frm (fun k => k = w.heap.size + 1) w4 (w4.setCell ⟨w.heap.size + 1, 0, none⟩ (.int .i64 q)) := (Frm.refl _ w4).setCell _ _ (.inl rfl);obtain ⟨w5, hw5⟩ : ∃ w5, w4.setCell ⟨w.heap.size + 1, 0, none⟩ (.int .i64 q) = w5 := ⟨_, rfl⟩
  rw [hw5] at F5 hy5;rw [hw5];obtain ⟨d0, d1, d2, e0, e1, e2⟩ := gr_cells hy5;have FIN := Hd (HFIN.out _ (put3_frm F5 (w.heap.size + 1) q 0 0 (.inl rfl)));have RZ := Hd (gr_cells (put3_block (x := q) (y := 0) (z := 0) hy5));clear hw5 hy5 F5 hfin hy c0 c1 c2 f0 f1 f2 y0 y1 y2 y3;unfold put3 at FIN RZ;go_wp2_with fail;exact bodyPost_ret (v := .tuple #[.agg #[.int .i64 q, .int .i64 0, .int .u64 0], .int .i64 0]) (by simp [results, Tryz.results144, go_sem, RZ.out.1, RZ.out.2.1, RZ.out.2.2.1]) rfl FIN.out
 ·have hl := many_keys hw hb.1 (by omega)
  obtain ⟨rA, rB⟩ := parts_right ha hb hl
  obtain ⟨mid, hm⟩ : ∃ mid, N.K[cutN N]? = some mid := by
   obtain ⟨_, _, _, _, _, _, h2, _⟩ := ha;obtain ⟨mid, _, _, _, _, s1, _⟩ := split_T h2 hl;exact ⟨mid, s1⟩
  have hmb : 0 ≤ mid ∧ mid ≤ 18446744073709551615 := hN.r.ok.kb mid (List.mem_of_getElem? hm);have SP := Hd (fun w3 (b3 : Below w2.heap.size w2 w3) => split_yesL N ak av ac ck cv cc w3 (hN.r.below (B2.trans (b3.mono B2.size))) hw hl mid hm);have two := Hd (fun dk1 st1 dk' st' q1 q2 (a1 : Laid dk st p (aheadN N (cutN N)) dk1 st1 q1) (a2 : Placed dk1 st1 (behindN N (cutN N)) dk' st' q2) => lay_two (dk' := dk') ha hl hm a1 a2);generalize aheadN N (cutN N) = A at *;generalize behindN N (cutN N) = Bn at *
  have LA : Hid (∀ w6 xk xv xc dk0 dv dc yk yv yc ek ev ec lo, Below w.heap.size w w6 → w2.heap.size ≤ lo → w2.heap.size ≤ w6.heap.size → NodR w6 A xk xv xc dk0 dv dc → LoR lo xk xv xc → NodR w6 Bn yk yv yc ek ev ec → LoR lo yk yv yc → w6.heap[w.heap.size + 1]? = some (grO 0 0 mid) →
    Calls Tryz.prog 173 #[.pointer (some ⟨g, 0, none⟩), .int .i64 p, nodV A xk xv xc dk0 dv dc] w6 fun e w7 => ∃ q1, e = .returned (.tuple #[.int .i64 q1, .int .i64 0]) ∧ Frm F w6 w7 ∧
     ∀ w8, Frm (fun k => k = w.heap.size + 1) w7 w8 → Calls Tryz.prog 142 #[.pointer (some ⟨g, 0, none⟩), nodV Bn yk yv yc ek ev ec] w8 fun e w9 => ∃ q2, e = .returned (.tuple #[.int .i64 q2, .int .i64 0]) ∧ w9.heap[w.heap.size + 1]? = w8.heap[w.heap.size + 1]? ∧
      ∀ w10, Frm (fun k => k = w.heap.size + 1) w9 w10 → Grown w d s g dk st r F fs hh E (.returned (.tuple #[.agg #[.int .i64 q1, .int .i64 q2, .int .u64 mid], .int .i64 0])) w10) := Hd (fun w6 xk xv xc dk0 dv dc yk yv yc ek ev ec lo b6 hlo hs6 hA hloA hB hloB hbx => by
   have ltF : ∀ k, F k → k < w.heap.size := HL.out;have hRA : RowsA w6 A xk xv xc dk0 dv dc F := RowsA.new hA hloA.1 hloA.2.1 hloA.2.2 (fun k hk => by have := ltF k hk; omega)
   have hRB : RowsA w6 Bn yk yv yc ek ev ec (fun k => F k ∨ k = w.heap.size + 1) := RowsA.new hB hloB.1 hloB.2.1 hloB.2.2 (fun k hk => by
    rcases hk with hk | hk
    ·have := ltF k hk; omega
    ·omega)
   refine (vlay_is w6 d s g dk st r F (HT.out.below b6) HG.out p HA.out.live (hroom.le (by omega)) A rA xk xv xc dk0 dv dc hRA).mono ?_;rintro e w7 ⟨q1, dk1, st1, rfl, ⟨F1, t1, t2, t3⟩, l1, r1⟩;refine ⟨q1, rfl, t2, fun w8 f8 => ?_⟩
   have nb1 : ¬ F1 (w.heap.size + 1) := fun hx => by
    rcases t3 _ hx with h1 | h1
    ·have := ltF _ h1; omega
    ·omega
   have T8 : TS w8 d s g dk1 st1 r F1 := t1.frm f8 (fun k hk e => nb1 (e ▸ hk));have hRB7 : RowsA w7 Bn yk yv yc ek ev ec (fun k => F k ∨ k = w.heap.size + 1) := hRB.frm t2 (fun k hk => .inl hk)
   have hRB8 : RowsA w8 Bn yk yv yc ek ev ec F1 := by
    have hz := hRB.grow (Z' := F1) (fun k hk => (t3 k hk).imp .inl id);have h8 := hRB7.frm f8 (fun k hk => .inr hk);exact ⟨h8.r, hz.zk, hz.zv, hz.zc⟩
   refine (vplace_is w8 d s g dk1 st1 r F1 T8 l1.tt.g (r1 1 hroom) Bn rB yk yv yc ek ev ec hRB8).mono ?_;rintro e w9 ⟨q2, dk', st', rfl, ⟨F2, t4, t5, t6⟩, l2, r2⟩;have s78 := f8.size;have s67 := t2.size;have s89 := t5.size;refine ⟨q2, rfl, t5.block _ (by omega) nb1, fun w10 f10 => ?_⟩;obtain ⟨QM, u1, u2⟩ := two.out dk1 st1 dk' st' q1 q2 l1 l2;refine ⟨q1, q2, mid, [mid], QM, dk', st', rfl, ⟨F2, t4.frm f10 (fun k hk e => ?_), ?_, fun k hk => ?_⟩, u1, u2, l1.tt.trans l2.tt, fun k hk => r2 k (r1 (k + 1) hk), hmb.1, hmb.2⟩
   ·subst e
    rcases t6 _ hk with h1 | h1
    ·exact nb1 h1
    ·omega
   ·have f06 : Frm F w w6 := Frm.of_below b6
    have f07 := f06.trans t2 (fun k hk => .inl hk);have f08 := f07.trans f8 (fun k hk => .inr (by subst hk; omega));have f09 := f08.trans t5 (fun k hk => (t3 k hk).imp id (fun hx => by have := b6.size; omega));exact f09.trans f10 (fun k hk => .inr (by subst hk; omega))
   ·rcases t6 k hk with h1 | h1
    ·exact (t3 k h1).imp id (fun hx => by have := b6.size; omega)
    ·exact .inr (by have := b6.size; omega))
  have hs' : ¬ (z : Int) ≤ 240 := by omega
  clear h G ha hb hk hN hw hz B2 X2 Y2 HT HG HA HNB HK HZ HW HN hroom rA rB hm hmb two hl;unfold nodV at *;go_enter Tryz.func144, Tryz.ntmps144;go_wp2_with fail;refine SZ.out.mono ?_;rintro e w3 ⟨rfl, b3⟩;have S3 := Hd (SP.out w3 b3);have B3 := Hd b3;obtain ⟨y0, y1, y2, y3⟩ := cells4 (kept HX.out b3);clear b3 x0 x1 x2 x3;go_wp2_with fail;refine S3.out.mono ?_;rintro e w4 ⟨⟨xk, xv, xc, dk0, dv, dc, yk, yv, yc, ek, ev, ec, rfl, hA, hB, hloA, hloB⟩, b4⟩;unfold nodV;go_upto_region 5 with fail
  obtain ⟨w5, hw5⟩ : ∃ w5, (w4.alloc (.cells #[.bool A.leaf, .slice xk A.K.length dk0, .slice xv A.V.length dv, .slice xc A.C.length dc] 181)).alloc (.cells #[.bool Bn.leaf, .slice yk Bn.K.length ek, .slice yv Bn.V.length ev, .slice yc Bn.C.length ec] 181) = w5 := ⟨_, rfl⟩
  have B5 : Below w4.heap.size w4 w5 := by rw [← hw5]; exact ((Below.refl _ w4).alloc (Nat.le_refl _) _).alloc (by simp) _
  have z5 : w5.heap.size = w4.heap.size + 2 := by rw [← hw5]; simp
  have XA5 : w5.heap[w4.heap.size]? = some (.cells #[.bool A.leaf, .slice xk A.K.length dk0, .slice xv A.V.length dv, .slice xc A.C.length dc] 181) := by rw [← hw5]; exact (heap_alloc_old _ _ (by simp)).trans (heap_alloc_new w4 _)
  have XB5 : w5.heap[w4.heap.size + 1]? = some (.cells #[.bool Bn.leaf, .slice yk Bn.K.length ek, .slice yv Bn.V.length ev, .slice yc Bn.C.length ec] 181) := by
   rw [← hw5];have := heap_alloc_new (w4.alloc (.cells #[.bool A.leaf, .slice xk A.K.length dk0, .slice xv A.V.length dv, .slice xc A.C.length dc] 181)) (.cells #[.bool Bn.leaf, .slice yk Bn.K.length ek, .slice yv Bn.V.length ev, .slice yc Bn.C.length ec] 181);rw [World.size_alloc] at this;exact this
  have s23 := B3.out.size;have s34 := b4.size;have B25 : Below w2.heap.size w2 w5 := (B3.out.trans (b4.mono s23)).trans (B5.mono (Nat.le_trans s23 s34));have hy5 : w5.heap[w.heap.size + 1]? = some (grO 0 0 0) := kept HY.out B25;obtain ⟨c0, c1, c2, f0, f1, f2⟩ := gr_cells hy5;rw [hw5];clear hw5 y0 y1 y2 y3;go_upto_region 6 with fail
  obtain ⟨w6, hw6⟩ : ∃ w6, w5.setCell ⟨w.heap.size + 1, 2, none⟩ (.int .u64 mid) = w6 := ⟨_, rfl⟩
  have F56 : Frm (fun k => k = w.heap.size + 1) w5 w6 := by rw [← hw6]; exact (Frm.refl _ w5).setCell _ _ (.inl rfl)
  have hy6 : w6.heap[w.heap.size + 1]? = some (grO 0 0 mid) := by rw [← hw6]; exact gr_set2 hy5 mid
  have XA6 : w6.heap[w4.heap.size]? = some (.cells #[.bool A.leaf, .slice xk A.K.length dk0, .slice xv A.V.length dv, .slice xc A.C.length dc] 181) := (F56.block _ (by omega) (by show ¬ w4.heap.size = _; omega)).trans XA5;have XB6 : w6.heap[w4.heap.size + 1]? = some (.cells #[.bool Bn.leaf, .slice yk Bn.K.length ek, .slice yv Bn.V.length ev, .slice yc Bn.C.length ec] 181) := (F56.block _ (by omega) (by show ¬ w4.heap.size + 1 = _; omega)).trans XB5
  have B06 : Below w.heap.size w w6 := (HB.out.trans (B25.mono HB.out.size)).trans (F56.below (fun i hi => by subst hi; omega) (by have := HB.out.size; have := B25.size; omega))
  have lo6 : ∀ (n : Nod) (ak av ac : Option Addr) (ck cv cc : Nat), NodR w4 n ak av ac ck cv cc → LoR w3.heap.size ak av ac → NodR w6 n ak av ac ck cv cc := fun n ak av ac ck cv cc hn hl =>
   (((RowsA.new (Z := fun k => k = w.heap.size + 1) hn hl.1 hl.2.1 hl.2.2 (fun k hk => by omega)).below B5).frm F56 (fun k hk => hk)).r
  have LAY := LA.out w6 xk xv xc dk0 dv dc yk yv yc ek ev ec w3.heap.size B06 s23 (by have := B25.size; have := F56.size; omega) (lo6 _ _ _ _ _ _ _ hA hloA) hloA (lo6 _ _ _ _ _ _ _ hB hloB) hloB hy6;have HL6 := Hd LAY;have HXB := Hd XB6;have HY6 := Hd hy6;have SZ6 : Hid (w.heap.size + 1 < w4.heap.size ∧ w4.heap.size + 1 < w6.heap.size) := Hd ⟨by omega, by have := F56.size; omega⟩;obtain ⟨a0, a1, a2, a3⟩ := cells4 XA6;rw [hw6];clear hw6 XA6 XB6 B06 lo6 LAY hy6 F56 XA5 XB5 hy5 c0 c1 c2 f0 f1 f2 B25 B5 z5 s23 s34 hA hB hloA hloB b4 S3 B3 SP LA;go_wp2_with fail;unfold nodV at HL6
  refine HL6.out.mono ?_;rintro e w7 ⟨q1, rfl, f67, hpl⟩;have hy7 : w7.heap[w.heap.size + 1]? = some (grO 0 0 mid) := (f67.block _ (by have := SZ6.out; omega) (fun hx => by have := HL.out _ hx; omega)).trans HY6.out;have XB7 : w7.heap[w4.heap.size + 1]? = some (.cells #[.bool Bn.leaf, .slice yk Bn.K.length ek, .slice yv Bn.V.length ev, .slice yc Bn.C.length ec] 181) := (f67.block _ SZ6.out.2 (fun hx => by have := HL.out _ hx; have := SZ6.out; omega)).trans HXB.out;have HPL := Hd hpl;have SZ7 := Hd f67.size;obtain ⟨c0, c1, c2, f0, f1, f2⟩ := gr_cells hy7;clear hpl f67 a0 a1 a2 a3
  go_upto_region 7 with fail
  obtain ⟨w8, hw8⟩ : ∃ w8, w7.setCell ⟨w.heap.size + 1, 0, none⟩ (.int .i64 q1) = w8 := ⟨_, rfl⟩
  have F78 : Frm (fun k => k = w.heap.size + 1) w7 w8 := by rw [← hw8]; exact (Frm.refl _ w7).setCell _ _ (.inl rfl)
  have hy8 : w8.heap[w.heap.size + 1]? = some (grO q1 0 mid) := by rw [← hw8]; exact gr_set0 hy7 q1
  have XB8 : w8.heap[w4.heap.size + 1]? = some (.cells #[.bool Bn.leaf, .slice yk Bn.K.length ek, .slice yv Bn.V.length ev, .slice yc Bn.C.length ec] 181) := (F78.block _ (by have := SZ7.out; have := SZ6.out; omega) (by show ¬ w4.heap.size + 1 = _; have := SZ6.out; omega)).trans XB7;have HP8 := Hd (HPL.out w8 F78);obtain ⟨b0, b1, b2, b3⟩ := cells4 XB8;have HY8 := Hd hy8;rw [hw8];clear hw8 c0 c1 c2 f0 f1 f2 hy7 XB7 XB8 F78 hy8;go_wp2_with fail;unfold nodV at HP8;refine HP8.out.mono ?_;rintro e w9 ⟨q2, rfl, hy9, hfin⟩;rw [HY8.out] at hy9;obtain ⟨c0, c1, c2, f0, f1, f2⟩ := gr_cells hy9
  have HFIN := Hd hfin;clear hfin b0 b1 b2 b3;go_upto_region 10 with fail
  obtain ⟨wx, hwx⟩ : ∃ wx, w9.setCell ⟨w.heap.size + 1, 1, none⟩ (.int .i64 q2) = wx := ⟨_, rfl⟩
  have F9x : Frm (fun k => k = w.heap.size + 1) w9 wx := by rw [← hwx]; exact (Frm.refl _ w9).setCell _ _ (.inl rfl)
  have hyx : wx.heap[w.heap.size + 1]? = some (grO q1 q2 mid) := by rw [← hwx]; exact gr_set1 hy9 q2
  rw [hwx];obtain ⟨d0, d1, d2, e0, e1, e2⟩ := gr_cells hyx;have FIN := Hd (HFIN.out _ (put3_frm F9x (w.heap.size + 1) q1 q2 mid (.inl rfl)));have RZ := Hd (gr_cells (put3_block (x := q1) (y := q2) (z := mid) hyx));clear hwx hyx F9x hy9 c0 c1 c2 f0 f1 f2;unfold put3 at FIN RZ;go_wp2_with fail;exact bodyPost_ret (v := .tuple #[.agg #[.int .i64 q1, .int .i64 q2, .int .u64 mid], .int .i64 0]) (by simp [results, Tryz.results144, go_sem, RZ.out.1, RZ.out.2.1, RZ.out.2.2.1]) rfl FIN.out
theorem StepA.frm2 {w w' : World} {x : StepV} {M : Nod} {Z G : Nat → Prop} (h : StepA w x M Z) (hf : Frm G w w') (hk : ∀ y, x.ak = some y → ¬ G y.block) (hc : ∀ y, x.ac = some y → ¬ G y.block) (hv : M.V = []) : StepA w' x M Z :=
 { h with
  a := { h.a with r := { h.a.r with
   k := h.a.r.k.frm hf fun y hy _ => hk y hy
   v := by rw [hv]; exact .inl rfl
   c := h.a.r.c.frm hf fun y hy _ => hc y hy } }
  uk := h.uk.frm hf hk
  uc := h.uc.frm hf hc }
theorem StepsA.above {w w' : World} {Z G : Nat → Prop} (hf : Frm G w w') : ∀ (xs : List StepV) (fs : List Frame) (hi : Nat), (∀ k, G k → hi ≤ k) → (∀ f ∈ fs, f.N.V = []) → StepsA w Z xs fs hi → StepsA w' Z xs fs hi := by
 intro xs
 induction xs with
 | nil => intro fs hi _ _ h; cases fs with | nil => trivial | cons f fs => exact h.elim
 | cons x xs ih =>
  intro fs hi hG hV h
  cases fs with
  | nil => exact h.elim
  | cons f fs =>
   obtain ⟨lo, h1, h2, h3, h4, h5, h6, h7⟩ := h;exact ⟨lo, h1.frm2 hf (fun y hy hg => by have := hG _ hg; have := (h4 y hy).2; omega) (fun y hy hg => by have := hG _ hg; have := (h5 y hy).2; omega) (hV f (by simp)), h2, h3, h4, h5, h6, ih fs lo (fun k hk => Nat.le_trans h6 (hG k hk)) (fun f' hf' => hV f' (by simp [hf'])) h7⟩
theorem Ctx.noV {R : Int → Option Nod} : ∀ (fs : List Frame) {h : Nat} {FL FR : List Mk} {PC : List Int}, Ctx R fs h FL FR PC → ∀ f ∈ fs, f.N.V = [] := by
 intro fs
 induction fs with
 | nil => intro h FL FR PC _ f hf; cases hf
 | cons a fs ih =>
  intro h FL FR PC hc f hf;obtain ⟨h1, _, _, _, h2, _⟩ := hc
  rcases List.mem_cons.1 hf with rfl | hf
  ·exact h1.v
  ·exact ih h2 f hf
def setKid (M : Nod) (i : Nat) (v : Int) : Nod := { leaf := M.leaf, K := M.K, V := M.V, C := M.C.set i v }
theorem Rd.setOther {w : World} {a : Option Addr} {L : List Value} (h : Rd w a L) (b o : Nat) (v old : Value) (ho : w.cell? ⟨b, o, none⟩ = some old) (hne : ∀ u ∈ L, u ≠ old) : Rd (w.setCell ⟨b, o, none⟩ v) a L := by
 rcases h with h | ⟨c, off, h1, h2, h3⟩
 ·exact .inl h
 ·refine .inr ⟨c, off, h1, by simp [World.setCell]; exact h2, fun i u hu => ?_⟩
  have h4 := h3 i u hu;rw [← h4];refine World.cell?_setCell_other _ _ _ _ (fun e => ?_);rw [← e, ho] at h4;injection h4 with h4;exact hne u (List.mem_of_getElem? hu) h4.symm
theorem Rd.setSame {w : World} {b off : Nat} {L : List Value} (h : Rd w (some ⟨b, off, none⟩) L) (i : Nat) (hi : i < L.length) (v : Value) : Rd (w.setCell ⟨b, off + i, none⟩ v) (some ⟨b, off, none⟩) (L.set i v) := by
 rcases h with h | ⟨c, o, h1, h2, h3⟩
 ·rw [h] at hi; cases hi
 ·injection h1 with h1
  injection h1 with e1 e2;subst e1 e2;refine .inr ⟨b, off, rfl, by simp [World.setCell]; exact h2, fun j u hu => ?_⟩
  by_cases hj : j = i
  ·subst hj
   rw [List.getElem?_set_self hi] at hu;injection hu with hu;subst hu;exact World.cell?_setCell_same _ _ _ (h3 j _ (List.getElem?_eq_getElem hi))
  ·rw [List.getElem?_set_ne (Ne.symm hj)] at hu
   rw [← h3 j u hu];refine World.cell?_setCell_other _ _ _ _ (fun e => ?_);injection e with _ e;omega
theorem row_set {w : World} {M : Nod} {av : Option Addr} {ak : Option Addr} {b off ck cv cc i : Nat} {Z : Nat → Prop} (h : RowsA w M ak av (some ⟨b, off, none⟩) ck cv cc Z) (hv : M.V = []) (hi : i < M.C.length) (v : Int) (hvb : -9223372036854775808 ≤ v ∧ v ≤ 9223372036854775807) :
  RowsA (w.setCell ⟨b, off + i, none⟩ (.int .i64 v)) (setKid M i v) ak av (some ⟨b, off, none⟩) ck cv cc Z := by
 have hc := h.r.c;obtain ⟨b', off', e1, e2, e3⟩ := hc.at i (by simpa using hi);injection e1 with e1;injection e1 with e1 e4;subst e1 e4;refine ⟨⟨h.r.k.setOther b (off + i) _ _ e3 (fun u hu => ?_), by show Rd _ _ (M.V.map _); rw [hv]; exact .inl rfl, ?_, h.r.k2, h.r.k3, h.r.v2, h.r.v3, by show (M.C.set i v).length ≤ _; rw [List.length_set]; exact h.r.c2, h.r.c3, ?_⟩, h.zk, h.zv, fun x hx hL => h.zc x hx (fun e => hL (by show M.C.set i v = []; rw [e]; rfl))⟩
 ·obtain ⟨k, _, rfl⟩ := List.mem_map.1 hu
  rw [List.getElem_map];intro e; cases e
 ·show Rd _ _ ((M.C.set i v).map ikid)
  rw [List.map_set];exact hc.setSame i (by simpa using hi) _
 ·have ho := h.r.ok
  refine ⟨ho.k1, ho.v1, by show (M.C.set i v).length ≤ _; rw [List.length_set]; exact ho.c1, ho.kb, ho.vb, fun c hc => ?_⟩
  rcases List.mem_or_eq_of_mem_set hc with hc | rfl
  ·exact ho.cb c hc
  ·exact hvb
def upN (f : Frame) (KM : List Int) (Q : List Int) : Nod := { leaf := false, K := f.KA ++ KM ++ f.KB, V := [], C := kP f.A ++ Q ++ kP f.B }
theorem up_one {R : Int → Option Nod} {h : Nat} {f : Frame} (hf : FrameOk R h f) (g : Int) : setKid f.N f.KA.length g = upN f [] [g] := by
 obtain ⟨c, hc⟩ := hf.c;unfold setKid upN;rw [hf.lf, hf.v, hf.k, hc, List.append_nil]
 congr 1
 have : (kP f.A).length = f.KA.length := by rw [kP_length, hf.a]
 rw [List.append_assoc, List.append_assoc, List.set_append_right _ _ (by omega), this, Nat.sub_self]
 rfl
theorem up_two {R : Int → Option Nod} {h : Nat} {f : Frame} (hf : FrameOk R h f) (g1 mid g2 : Int) : hangN (upN f [] [g1]) (f.KA.length : Int) mid g2 = upN f [mid] [g1, g2] := by
 have la : (kP f.A).length = f.KA.length := by rw [kP_length, hf.a]
 have lb : (kP f.B).length = f.KB.length := by rw [kP_length, hf.b]
 unfold hangN upN;rw [if_pos (by simp [wholeB, la, lb]; omega)];simp only [List.append_nil, Int.toNat_natCast, Nod.mk.injEq, true_and];constructor
 ·rw [List.take_left' rfl, List.drop_left' rfl]
 ·have e1 : (kP f.A ++ [g1] ++ kP f.B).take (f.KA.length + 1) = kP f.A ++ [g1] := List.take_left' (by simp [la])
  have e2 : (kP f.A ++ [g1] ++ kP f.B).drop (f.KA.length + 1) = kP f.B := List.drop_left' (by simp [la]);rw [e1, e2]; simp
theorem UpI.heads {dk : DkS} {st : ShS} {fs : List Frame} {h : Nat} {KM : List Int} {QM : List Kid} {E : List Ent} (hu : UpI dk st fs h KM QM E) (g : Good dk st) : ∀ c ∈ kP QM, 2 ≤ c ∧ c < 640 := by
 obtain ⟨FL, FR, PC, h1, h2, h3, h4, h5, h6⟩ := hu;intro c hc;obtain ⟨q, hq, rfl⟩ := List.mem_map.1 hc;obtain ⟨M, PM, _, _, _, e⟩ := h3 q hq;refine h6.rng g (List.mem_append_right _ (mem_kPs.2 ⟨q, hq, by rw [e]; simp⟩))
theorem UpI.frame {dk : DkS} {st : ShS} {f : Frame} {fs : List Frame} {h : Nat} {KM : List Int} {QM : List Kid} {E : List Ent} (hu : UpI dk st (f :: fs) h KM QM E) : FrameOk (Rn dk) h f := by
 obtain ⟨FL, FR, PC, ⟨h1, _⟩, _⟩ := hu;exact h1
theorem up_nb {dk : DkS} {st : ShS} {f : Frame} {fs : List Frame} {h : Nat} {KM : List Int} {QM : List Kid} {E : List Ent} (hu : UpI dk st (f :: fs) h KM QM E) (g : Good dk st) (hl : KM.length ≤ 1) : NB (upN f KM (kP QM)) 320 ∧ (upN f KM (kP QM)).K ≠ [] ∧ AtI dk st fs (h + 1) f.page (upN f KM (kP QM)) E := by
 have hf := hu.frame;have hh := hu.heads g;have ha := up_next hu (upN f KM (kP QM)) rfl rfl rfl rfl;have hn := NB.of_right hf.r;obtain ⟨c, hc⟩ := hf.c;obtain ⟨_, _, _, _, h2, _⟩ := hu;refine ⟨⟨fun v hv => (by cases hv), fun x hx => ?_, ?_⟩, ?_, ha⟩
 ·simp only [upN, List.mem_append] at hx
  rcases hx with (hx | hx) | hx
  ·exact hn.2.1 x (by rw [hc]; simp [hx])
  ·exact hh x hx
  ·exact hn.2.1 x (by rw [hc]; simp [hx])
 ·have hz := hn.2.2
  unfold sizeN at hz ⊢;rw [hf.lf, hf.k, hc] at hz;simp only [upN, Bool.false_eq_true, if_false, List.length_append, kP_length, List.length_singleton] at hz ⊢;omega
 ·intro e
  have e1 := congrArg List.length e;simp only [upN, List.length_append, List.length_nil] at e1;have := List.length_pos_iff.2 hf.k0;rw [hf.k, List.length_append] at this;omega
def PutT (w : World) (d s g : Nat) (dk : DkS) (st : ShS) (F : Nat → Prop) (E : List Ent) (m : Nat) (e : Ending) (w' : World) : Prop :=
 ∃ q dk' st' r', e = .returned (.tuple #[.int .i64 q, .int .i64 0]) ∧ TSPost w d s g dk' st' r' F w' ∧ TreeI dk' st' q E ∧ To dk st dk' st' ∧ ∀ k, Room dk st (k + m) → Room dk' st' k
theorem vput_nil (w : World) (d s g : Nat) (dk : DkS) (st : ShS) (r : Nat) (F : Nat → Prop) (h : TS w d s g dk st r F) (G : Good dk st) (hroom : Room dk st 1) (hl : LiveL st []) (key : Int) (hk : 0 ≤ key ∧ key ≤ 18446744073709551615) (v : ByteArray) (hv : v.size ≤ 40) :
  Calls Tryz.prog 120 #[.pointer (some ⟨g, 0, none⟩), .int .i64 0, .int .u64 key, .string v] w (PutT w d s g dk st F (insE key v []) 1) := by
 have hn0 : NodR w ⟨true, [], [], []⟩ none none none 0 0 0 := ⟨.inl rfl, .inl rfl, .inl rfl, Nat.le_refl _, Nat.zero_le _, Nat.le_refl _, Nat.zero_le _, Nat.le_refl _, Nat.zero_le _, ⟨Nat.zero_le _, Nat.zero_le _, Nat.zero_le _, by simp, by simp, by simp⟩⟩
 have PT := Hd (put_is ⟨true, [], [], []⟩ none none none 0 0 0 w hn0 key v rfl rfl (by simp) hk (by omega));have hN : putN ⟨true, [], [], []⟩ key v = ⟨true, [key], [v], []⟩ := rfl;rw [hN] at PT;have hr : rightN ⟨true, [key], [v], []⟩ = true := (rightN_iff _).2 ⟨(plainB_iff _).2 ⟨fun i hi => by simp at hi, by simpa using hv, by simp⟩, rfl, fun _ => by simp, by simp [sizeN, bytesV]; omega⟩
 have PL : Hid (∀ w1 ak av ac ck cv cc, Below w.heap.size w w1 → NodR w1 ⟨true, [key], [v], []⟩ ak av ac ck cv cc → LoR w.heap.size ak av ac → Calls Tryz.prog 142 #[.pointer (some ⟨g, 0, none⟩), nodV ⟨true, [key], [v], []⟩ ak av ac ck cv cc] w1 (PutT w d s g dk st F (insE key v []) 1)) := Hd (fun w1 ak av ac ck cv cc b hn hlo => by
  refine (vplace_is w1 d s g dk st r F (h.below b) G hroom _ hr ak av ac ck cv cc (RowsA.new hn hlo.1 hlo.2.1 hlo.2.2 h.lt)).mono ?_;rintro e w2 ⟨q, dk', st', rfl, hp, hpl, hrm⟩;refine ⟨q, dk', st', r, rfl, TSPost.chain b hp, .inr ⟨0, [(key, some v)], [q], ⟨_, [], hpl.rd, by simp, ⟨rfl, rfl, rfl, rfl, rfl⟩, rfl⟩, List.pairwise_singleton _ _, rfl, (hpl.lv [] hl).1⟩, hpl.tt, hrm⟩)
 clear h hroom hl hn0 hr hN G;unfold nodV at *;go_enter Tryz.func120, Tryz.ntmps120;go_wp2_with fail;refine PT.out.mono ?_;rintro e w1 ⟨⟨ak, av, ac, ck, cv, cc, rfl, hR, q1, q2, q3⟩, b1⟩;have P1 := Hd (PL.out w1 ak av ac ck cv cc b1 hR ⟨q1, q2, q3⟩);unfold nodV;clear hR q1 q2 q3 b1;go_wp2_with fail;refine P1.out.mono ?_;rintro e w2 ⟨q, dk', st', r', rfl, z2, z3, z4, z5⟩;have FIN : Hid (PutT w d s g dk st F (insE key v []) 1 (.returned (.tuple #[.int .i64 q, .int .i64 0])) w2) := Hd ⟨q, dk', st', r', rfl, z2, z3, z4, z5⟩;clear z2 z3 z4 z5;go_wp2_with fail;go_ret2;exact FIN.out
structure PutJ (w : World) (d s g : Nat) (dk : DkS) (st : ShS) (r : Nat) (F : Nat → Prop) (E : List Ent) (bw bx m : Nat) (wr : World) (fs : List Frame) (xs : List StepV) (hh : Nat) (dk' : DkS) (st' : ShS) (F' FW : Nat → Prop) (KM : List Int) (QM : List Kid) (g1 g2 g3 : Int) (hi : Nat) : Prop where
 ts : TS wr d s g dk' st' r F'
 fr : Frm F w wr
 fn : ∀ k, F' k → F k ∨ w.heap.size ≤ k
 way : Way wr bw xs.reverse FW
 ap : ∀ k, FW k → ¬ F' k
 wl : ∀ k, FW k → w.heap.size ≤ k
 gb : wr.heap[bx]? = some (grO g1 g2 g3)
 bxF : ¬ F' bx
 bxW : ¬ FW bx
 bxl : w.heap.size ≤ bx
 sts : StepsA wr (fun k => F' k ∨ FW k ∨ k = bx) xs fs hi
 rl : ∀ x ∈ xs, (∀ y, x.ak = some y → w.heap.size ≤ y.block) ∧ ∀ y, x.ac = some y → w.heap.size ≤ y.block
 hib : hi ≤ wr.heap.size
 up : UpI dk' st' fs hh KM QM E
 gr : GR g1 g2 g3 KM QM
 g3 : 0 ≤ g3 ∧ g3 ≤ 18446744073709551615
 tt : To dk st dk' st'
 rm : ∀ k, Room dk st (k + m) → Room dk' st' (k + 2 * fs.length + 1)
def wayN (b : Nat) (w : World) : Nat := match w.cell? ⟨b, 0, none⟩ with | some (.slice _ n _) => n | _ => 0
theorem wayN_of {w : World} {b : Nat} {L : List StepV} {F : Nat → Prop} (h : Way w b L F) : wayN b w = L.length := by
 obtain ⟨v, hi, _⟩ := h;obtain ⟨a, c, rfl, _⟩ := own_shape7 hi.own;unfold wayN;rw [cells1 hi.box]
structure PopS (w : World) (d s g : Nat) (dk : DkS) (st : ShS) (r : Nat) (F : Nat → Prop) (w4 : World) (bw bs : Nat) (v : Value) (fs : List Frame) (xs : List StepV) (x : StepV) (M : Nod) (hi : Nat) : Prop where
 ts : TS w4 d s g dk st r F
 fr : Frm F w w4
 fl : ∀ k, F k → k < w.heap.size
 way : Way w4 bw xs.reverse (WF bw v)
 wl : ∀ k, WF bw v k → w.heap.size ≤ k ∧ k < bs
 st : StepsA w4 (fun k => F k ∨ WF bw v k) xs fs hi
 rl : ∀ x ∈ xs, (∀ y, x.ak = some y → w.heap.size ≤ y.block) ∧ ∀ y, x.ac = some y → w.heap.size ≤ y.block
 hi : hi ≤ bs
 lf : StepA w4 x M (fun k => F k ∨ WF bw v k)
 box : w4.heap[bs]? = some (.cells #[.int .i64 x.p, .int .i64 x.i, .bool x.fd, .bool x.lf, .slice x.ak x.lk x.ck, .slice x.av x.lv x.cv, .slice x.ac x.lc x.cc] 183)
 bs0 : w.heap.size ≤ bs
 bs1 : w4.heap.size = bs + 1
theorem popS_of {w : World} {d s g : Nat} {dk : DkS} {st : ShS} {r : Nat} {F : Nat → Prop} {F0 : List Mk} {P0 : List Int} {key : Int} {H : Nat} {v : Value} {w1 w3 : World} {fs : List Frame} {xs : List StepV} {x : StepV} {M : Nod} {i : Nat} {fd : Bool} {FL FR Fh : List Mk} {PC : List Int} {hi : Nat}
  (hL : ∀ k, F k → k < w.heap.size) (hF : F g) (hD : Down w d s g dk st r F F0 P0 key H v w1 fs xs x M i fd FL FR Fh PC hi) (hw3 : Way w3 w1.heap.size xs.reverse (WF w1.heap.size v)) (hf3 : Frm (fun k => k = w1.heap.size) (w1.alloc (.cells #[v] 177)) w3) :
  PopS w d s g dk st (r + H + 1) F (w3.alloc (.cells #[.int .i64 x.p, .int .i64 x.i, .bool x.fd, .bool x.lf, .slice x.ak x.lk x.ck, .slice x.av x.lv x.cv, .slice x.ac x.lc x.cc] 183)) w1.heap.size w3.heap.size v fs xs x M hi := by
 have s1 := hD.fr.size;have s3 : w1.heap.size + 1 ≤ w3.heap.size := by have := hf3.size; rw [World.size_alloc] at this; exact this
 have f13 : Frm (fun k => k = w1.heap.size) w1 w3 := ((Frm.refl _ w1).alloc _).trans hf3 (fun k hk => .inl hk);have f14 : Frm (fun k => k = w1.heap.size) w1 (w3.alloc (.cells #[.int .i64 x.p, .int .i64 x.i, .bool x.fd, .bool x.lf, .slice x.ak x.lk x.ck, .slice x.av x.lv x.cv, .slice x.ac x.lc x.cc] 183)) := f13.alloc _;have b34 : Below w3.heap.size w3 (w3.alloc (.cells #[.int .i64 x.p, .int .i64 x.i, .bool x.fd, .bool x.lf, .slice x.ak x.lk x.ck, .slice x.av x.lv x.cv, .slice x.ac x.lc x.cc] 183)) := (Below.refl _ w3).alloc (Nat.le_refl _) _
 have hown : ∀ k, v.ownBlock = some k → k < w1.heap.size := fun k hk => (hD.own.lt k hk).2
 have grw : ∀ k, (F k ∨ WF w1.heap.size v k) → (F k ∨ v.ownBlock = some k) ∨ w1.heap.size ≤ k := by
  rintro k (hk | hk | hk)
  ·exact .inl (.inl hk)
  ·exact .inr (by omega)
  ·exact .inl (.inr hk)
 refine ⟨?_, ?_, hL, hw3.below b34, ?_, ?_, hD.rl, ?_, ?_, heap_alloc_new w3 _, by omega, by simp⟩
 ·exact hD.ts.frm f14 (fun k hk e => by have := hL k hk; omega)
 ·exact (hD.fr.mono (fun k hk => hk ▸ hF)).trans f14 (fun k hk => .inr (by omega))
 ·rintro k (hk | hk)
  ·omega
  ·have := hown k hk; have := hD.lo k hk; omega
 ·exact StepsA.frm f14 (fun k hk => .inr (.inl hk)) xs fs hi (StepsA.grow grw xs fs hi hD.st)
 ·have := hD.hi; omega
 ·exact (hD.lf.grow grw).frm f14 (fun k hk => .inr (.inl hk))
theorem putJ_start {w : World} {d s g : Nat} {dk dk' : DkS} {st st' : ShS} {r : Nat} {F F' : Nat → Prop} {w4 wg wh we : World} {bw bs bx hh m : Nat} {v : Value} {fs : List Frame} {xs : List StepV} {x : StepV} {M : Nod} {hi : Nat} {E : List Ent} {KM : List Int} {QM : List Kid} {g1 g2 g3 : Int}
  (hP : PopS w d s g dk st r F w4 bw bs v fs xs x M hi) (b4 : Below w4.heap.size w4 wg) (t1 : TS wh d s g dk' st' r F') (t2 : Frm F wg wh) (t3 : ∀ k, F' k → F k ∨ wg.heap.size ≤ k) (nb : ¬ F' bx) (hb4 : w4.heap.size ≤ bx) (fe : Frm (fun k => k = bx) wh we) (hbx : we.heap[bx]? = some (grO g1 g2 g3))
  (hu : UpI dk' st' fs hh KM QM E) (hg : GR g1 g2 g3 KM QM) (hg3 : 0 ≤ g3 ∧ g3 ≤ 18446744073709551615) (tt : To dk st dk' st') (rm : ∀ k, Room dk st (k + m) → Room dk' st' (k + 2 * fs.length + 1)) :
  PutJ w d s g dk st r F E bw bx m we fs xs hh dk' st' F' (WF bw v) KM QM g1 g2 g3 hi := by
 have s4 := b4.size;have sg := t2.size;have f4h : Frm F w4 wh := (Frm.of_below b4 : Frm F w4 wg).trans t2 (fun k hk => .inl hk)
 have grw : ∀ k, (F k ∨ F' k ∨ WF bw v k ∨ k = bx) → (F k ∨ WF bw v k) ∨ w4.heap.size ≤ k := by
  rintro k (hk | hk | hk | hk)
  ·exact .inl (.inl hk)
  ·rcases t3 k hk with h | h
   ·exact .inl (.inl h)
   ·exact .inr (by omega)
  ·exact .inl (.inr hk)
  ·exact .inr (by omega)
 have hbs := hP.bs1;refine ⟨t1.frm fe (fun k hk e => nb (e ▸ hk)), ?_, fun k hk => ?_, ?_, ?_, fun k hk => (hP.wl k hk).1, hbx, nb, fun hk => ?_, by have := hP.bs0; omega, ?_, hP.rl, ?_, hu, hg, hg3, tt, rm⟩
 ·exact (hP.fr.trans f4h (fun k hk => .inl hk)).trans fe (fun k hk => .inr (by have := hP.bs0; omega))
 ·rcases t3 k hk with h | h
  ·exact .inl h
  ·exact .inr (by have := hP.bs0; omega)
 ·refine Way.frm (Way.frm hP.way f4h (fun k hk hf => ?_)) fe (fun k hk e => ?_)
  ·have := (hP.wl k hk).1; have := hP.fl k hf; omega
  ·have := (hP.wl k hk).2; omega
 ·intro k hk hf
  rcases t3 k hf with h | h
  ·have := (hP.wl k hk).1; have := hP.fl k h; omega
  ·have := (hP.wl k hk).2; omega
 ·have := (hP.wl _ hk).2; omega
 ·have e1 := StepsA.grow grw xs fs hi hP.st
  have e2 := StepsA.frm f4h (fun k hk => .inl hk) xs fs hi e1;have e3 := StepsA.frm fe (fun k hk => .inr (.inr (.inr hk))) xs fs hi e2;exact StepsA.mono (fun k hk => .inr hk) xs fs hi e3
 ·have := hP.hi; have := fe.size; omega
end Go.Proofs.YthcejfnngkmojaaGreatDoor
