/-
 TrY, TrX, TrZ, TrTp, TrTg, TrSa, TrSh, TrMg, TrSk, TrGet, TrDl, TrKv, TrNw, TrDe, TrLw, TrEk, TrB, TrSc, RgK, RgM, TrPg, Tx, Tg, Ts.
-/
import Derived.Test.YthcejfnngkmojaaGreatDoorK14
import Derived.Test.YthcejfnngkmojaaGreatDoorK01
import Derived.Test.YthcejfnngkmojaaGreatDoorK02
import Derived.Deep.DeepCutAuto
import Derived.Test.YthcejfnngkmojaaGreatDoorK04
import Derived.RangeFuncNested
import Derived.RangeFuncLeaves
import Derived.LoopIn
import Derived.TacticsIn
import Derived.Test.YthcejfnngkmojaaGreatDoorK12
import Derived.BigQuiet
namespace Go.Proofs.YthcejfnngkmojaaGreatDoor
open Go.RowKit
set_option maxRecDepth 20000
set_option maxHeartbeats 12800000
set_option linter.unusedVariables false
set_option linter.unusedSimpArgs false
structure RoundS (w : World) (d s g : Nat) (dk : DkS) (st : ShS) (r : Nat) (F : Nat → Prop) (E : List Ent) (bw bx bs m : Nat) (wz : World) (fs : List Frame) (xs : List StepV) (hh : Nat) (dk' : DkS) (st' : ShS) (F' FW : Nat → Prop) (g1 g2 g3 : Int) (hi : Nat) (p : Int) (N : Nod) (rm2 : Nat) : Prop where
 ts : TS wz d s g dk' st' r F'
 fr : Frm F w wz
 fn : ∀ k, F' k → F k ∨ w.heap.size ≤ k
 way : Way wz bw xs.reverse FW
 ap : ∀ k, FW k → ¬ F' k
 wl : ∀ k, FW k → w.heap.size ≤ k
 gb : wz.heap[bx]? = some (grO g1 g2 g3)
 bxF : ¬ F' bx
 bxW : ¬ FW bx
 bxl : w.heap.size ≤ bx
 bsF : ¬ F' bs
 bsW : ¬ FW bs
 bsX : bs ≠ bx
 bsl : w.heap.size ≤ bs
 bsz : bs < wz.heap.size
 hbs : hi ≤ bs
 sts : StepsA wz (fun k => F' k ∨ FW k ∨ k = bx) xs fs hi
 rl : ∀ x ∈ xs, (∀ y, x.ak = some y → w.heap.size ≤ y.block) ∧ ∀ y, x.ac = some y → w.heap.size ≤ y.block
 nv : ∀ f ∈ fs, f.N.V = []
 at_ : AtI dk' st' fs hh p N E
 nb : NB N 320
 nk : N.K ≠ []
 tt : To dk st dk' st'
 rm : ∀ k, Room dk st (k + m) → Room dk' st' (k + 2 * fs.length + 3)
theorem RoundS.below {w : World} {d s g : Nat} {dk : DkS} {st : ShS} {r : Nat} {F : Nat → Prop} {E : List Ent} {bw bx bs m : Nat} {wz wy : World} {fs : List Frame} {xs : List StepV} {hh : Nat} {dk' : DkS} {st' : ShS} {F' FW : Nat → Prop} {g1 g2 g3 : Int} {hi : Nat} {p : Int} {N : Nod} {rm2 : Nat}
  (h : RoundS w d s g dk st r F E bw bx bs m wz fs xs hh dk' st' F' FW g1 g2 g3 hi p N rm2) (hf : Frm (fun k => k = bs) wz wy) : RoundS w d s g dk st r F E bw bx bs m wy fs xs hh dk' st' F' FW g1 g2 g3 hi p N rm2 :=
 { h with
  ts := h.ts.frm hf (fun k hk e => h.bsF (e ▸ hk))
  fr := h.fr.trans hf (fun k hk => .inr (by subst hk; exact h.bsl))
  way := h.way.frm hf (fun k hk e => h.bsW (e ▸ hk))
  gb := (hf.block bx (Array.getElem?_eq_some_iff.1 h.gb).1 (fun e => h.bsX e.symm)).trans h.gb
  bsz := Nat.lt_of_lt_of_le h.bsz hf.size
  sts := StepsA.above hf xs fs hi (fun k hk => by subst hk; exact h.hbs) h.nv h.sts }
theorem round_ready {w : World} {d s g : Nat} {dk : DkS} {st : ShS} {r : Nat} {F : Nat → Prop} {E : List Ent} {bw bx m : Nat} {wr w2 : World} {f : Frame} {fs : List Frame} {x : StepV} {xs : List StepV} {hh : Nat} {dk' : DkS} {st' : ShS} {F' FW : Nat → Prop} {KM : List Int} {QM : List Kid} {g1 g2 g3 : Int} {hi : Nat}
  (hF : ∀ k, F k → k < w.heap.size) (hJ : PutJ w d s g dk st r F E bw bx m wr (f :: fs) (x :: xs) hh dk' st' F' FW KM QM g1 g2 g3 hi) (hl : KM.length ≤ 1) (hw2 : Way w2 bw xs.reverse FW) (hf2 : Frm (fun k => k = bw) wr w2) (hbw : FW bw) :
  ∃ (cb off : Nat), x.ac = some ⟨cb, off, none⟩ ∧ x.i = (f.KA.length : Int) ∧ f.KA.length < x.lc ∧ x.lc = f.N.C.length ∧ cb < w2.heap.size ∧
   (∃ c, w2.cell? ⟨cb, off + f.KA.length, none⟩ = some (.int .i64 c)) ∧ w2.frozen? ⟨cb, off + f.KA.length, none⟩ = false ∧ cb ≠ bx ∧ w2.heap[bx]? = some (grO g1 g2 g3) ∧
   ∀ w3, w3 = (w2.alloc (.cells #[.int .i64 x.p, .int .i64 x.i, .bool x.fd, .bool x.lf, .slice x.ak x.lk x.ck, .slice x.av x.lv x.cv, .slice x.ac x.lc x.cc] 183)) → ∀ w4, w4 = w3.setCell ⟨cb, off + f.KA.length, none⟩ (.int .i64 g1) →
    ∃ lo, RoundS w d s g dk st r F E bw bx w2.heap.size m w4 fs xs (hh + 1) dk' st' F' FW g1 g2 g3 lo f.page (upN f KM (kP QM)) 0 ∧ RowsA w4 (setKid f.N f.KA.length g1) x.ak x.av x.ac x.ck x.cv x.cc F' ∧ x.p = f.page ∧
     w4.heap[w2.heap.size]? = some (.cells #[.int .i64 x.p, .int .i64 x.i, .bool x.fd, .bool x.lf, .slice x.ak x.lk x.ck, .slice x.av x.lv x.cv, .slice x.ac x.lc x.cc] 183) ∧ x.lf = f.N.leaf ∧ x.lk = f.N.K.length ∧ x.lv = f.N.V.length := by
 obtain ⟨lo, sA, sp, si, sk, sc, slo, srest⟩ := hJ.sts;have hfr := hJ.up.frame;obtain ⟨c, hc⟩ := hfr.c
 have hclen : f.KA.length < f.N.C.length := by
  rw [hc]; simp only [List.length_append, kP_length, List.length_singleton]; have := hfr.a; omega
 have hCne : f.N.C ≠ [] := fun e => by rw [e] at hclen; exact absurd hclen (Nat.not_lt_zero _)
 have sA2 : StepA w2 x f.N (fun k => F' k ∨ FW k ∨ k = bx) := sA.frm hf2 (fun k hk => .inr (.inl (hk ▸ hbw)));obtain ⟨cb, off, e1, e2, e3⟩ := sA2.a.r.c.at f.KA.length (by simpa using hclen);have hucb := sA2.uc _ e1;have hzcb := sA2.zc _ e1;have hscb := sc _ e1;have hbx2 : w2.heap[bx]? = some (grO g1 g2 g3) := (hf2.block bx (Array.getElem?_eq_some_iff.1 hJ.gb).1 (fun e => hJ.bxW (e ▸ hbw))).trans hJ.gb
 have hg1b : 2 ≤ g1 ∧ g1 < 640 := by
  have hh := hJ.up.heads hJ.tt.g
  rcases hJ.gr with ⟨q, _, hQ, h1, _⟩ | ⟨q1, q2, _, hQ, h1, _⟩
  ·exact hh g1 (by rw [hQ, h1]; simp [kP])
  ·exact hh g1 (by rw [hQ, h1]; simp [kP])
 refine ⟨cb, off, e1, si, by rw [sA.lc]; exact hclen, sA.lc, e2, ⟨_, by rw [e3, List.getElem_map]; rfl⟩, hucb.2 _, fun e => hzcb (.inr (.inr e)), hbx2, fun w3 hw3 w4 hw4 => ?_⟩;have b3 : Below w2.heap.size w2 w3 := by rw [hw3]; exact (Below.refl _ w2).alloc (Nat.le_refl _) _
 have z3 : w3.heap.size = w2.heap.size + 1 := by rw [hw3]; simp
 have x3 : w3.heap[w2.heap.size]? = some (.cells #[.int .i64 x.p, .int .i64 x.i, .bool x.fd, .bool x.lf, .slice x.ak x.lk x.ck, .slice x.av x.lv x.cv, .slice x.ac x.lc x.cc] 183) := by rw [hw3]; exact heap_alloc_new w2 _
 have f4 : Frm (fun k => k = cb) w3 w4 := by rw [hw4]; exact (Frm.refl _ w3).setCell _ _ (.inl rfl)
 have f24 : Frm (fun k => k = cb) w2 w4 := (Frm.of_below b3 : Frm (fun k => k = cb) w2 w3).trans f4 (fun k hk => .inl hk);have fr4 : Frm (fun k => k = bw ∨ k = cb) wr w4 := (hf2.mono (fun k hk => .inl hk)).trans f24 (fun k hk => .inl (.inr hk));have s2 := hf2.size;have hib := hJ.hib;have Flt : ∀ k, F' k → k < wr.heap.size := hJ.ts.lt;have Wlt : ∀ k, FW k → k < wr.heap.size := hJ.way.lt;have hcblo : w.heap.size ≤ cb ∨ True := .inr trivial;have nocb : ∀ k, F' k → k ≠ cb := fun k hk e => hzcb (.inl (e ▸ hk))
 have nocbW : ∀ k, FW k → k ≠ cb := fun k hk e => hzcb (.inr (.inl (e ▸ hk)))
 obtain ⟨hnb, hnk, hat⟩ := up_nb hJ.up hJ.tt.g hl
 have hV : ∀ f' ∈ fs, f'.N.V = [] := by
  obtain ⟨_, _, _, hctx, _⟩ := hJ.up;exact fun f' hf' => Ctx.noV (f :: fs) hctx f' (List.mem_cons_of_mem _ hf')
 have rA3 : RowsA w3 f.N x.ak x.av x.ac x.ck x.cv x.cc F' := (sA2.a.mono (fun k hk => .inl hk)).below b3
 have rA4 : RowsA w4 (setKid f.N f.KA.length g1) x.ak x.av x.ac x.ck x.cv x.cc F' := by
  rw [hw4];rw [e1] at rA3 ⊢;exact row_set rA3 hfr.v hclen g1 (by omega)
 refine ⟨lo, ⟨?_, ?_, hJ.fn, ?_, hJ.ap, hJ.wl, ?_, hJ.bxF, hJ.bxW, hJ.bxl, fun hk => by have := Flt _ hk; omega, fun hk => by have := Wlt _ hk; omega, fun e => ?_, ?_, by have := f4.size; omega, by omega, ?_, fun y hy => hJ.rl y (List.mem_cons_of_mem _ hy), hV, hat, hnb, hnk, hJ.tt, fun k hk => (hJ.rm k hk).le (by rw [List.length_cons]; omega)⟩, rA4, sp, ?_, sA.lf, sA.lk, sA.lv⟩
 ·exact (hJ.ts.frm fr4 (fun k hk hx => by
   rcases hx with hx | hx
   ·exact hJ.ap _ (hx ▸ hbw) (hx ▸ hk)
   ·exact nocb k hk hx))
 ·refine hJ.fr.trans fr4 (fun k hk => ?_)
  rcases hk with hk | hk
  ·exact .inr (hk ▸ hJ.wl bw hbw)
  ·have := (hJ.rl x (List.mem_cons_self ..)).2 _ e1
   exact .inr (by subst hk; exact this)
 ·exact hw2.frm f24 (fun k hk e => nocbW k hk e)
 ·refine (f24.block bx (Array.getElem?_eq_some_iff.1 hbx2).1 (fun e => ?_)).trans hbx2
  exact hzcb (.inr (.inr e.symm))
 ·have := (Array.getElem?_eq_some_iff.1 hbx2).1; omega
 ·have := hJ.fr.size; omega
 ·have e5 := StepsA.frm hf2 (fun k hk => .inr (.inl (hk ▸ hbw))) xs fs lo srest
  exact StepsA.above f24 xs fs lo (fun k hk => by subst hk; exact hscb.1) hV e5
 ·refine (f4.block _ (by omega) (fun e => ?_)).trans x3
  omega
theorem round_next {w : World} {d s g : Nat} {dk : DkS} {st : ShS} {r : Nat} {F : Nat → Prop} {E : List Ent} {bw bx bs m : Nat} {wg wh we : World} {fs : List Frame} {xs : List StepV} {hh : Nat} {dk' dk2 : DkS} {st' st2 : ShS} {F' F2 FW : Nat → Prop} {KM : List Int} {QM : List Kid} {g1 g2 g3 k1 k2 k3 : Int} {hi : Nat} {p : Int} {N : Nod} {rm2 : Nat}
  (h : RoundS w d s g dk st r F E bw bx bs m wg fs xs hh dk' st' F' FW g1 g2 g3 hi p N rm2) (t1 : TS wh d s g dk2 st2 r F2) (t2 : Frm F' wg wh) (t3 : ∀ k, F2 k → F' k ∨ wg.heap.size ≤ k) (fe : Frm (fun k => k = bx) wh we) (hbx : we.heap[bx]? = some (grO k1 k2 k3))
  (hu : UpI dk2 st2 fs hh KM QM E) (hg : GR k1 k2 k3 KM QM) (hg3 : 0 ≤ k3 ∧ k3 ≤ 18446744073709551615) (tt : To dk' st' dk2 st2) (rm : ∀ k, Room dk' st' (k + 2) → Room dk2 st2 k) :
  PutJ w d s g dk st r F E bw bx m we fs xs hh dk2 st2 F2 FW KM QM k1 k2 k3 hi := by
 have Wlt : ∀ k, FW k → k < wg.heap.size := h.way.lt;have bxl := (Array.getElem?_eq_some_iff.1 h.gb).1
 have nbx : ¬ F2 bx := fun hk => by
  rcases t3 _ hk with hx | hx
  ·exact h.bxF hx
  ·omega
 have s1 := t2.size
 have grw : ∀ k, (F' k ∨ F2 k ∨ FW k ∨ k = bx) → (F' k ∨ FW k ∨ k = bx) ∨ wg.heap.size ≤ k := by
  rintro k (hk | hk | hk | hk)
  ·exact .inl (.inl hk)
  ·exact (t3 k hk).imp .inl id
  ·exact .inl (.inr (.inl hk))
  ·exact .inl (.inr (.inr hk))
 refine ⟨t1.frm fe (fun k hk e => nbx (e ▸ hk)), ?_, fun k hk => ?_, ?_, fun k hk hf => ?_, h.wl, hbx, nbx, h.bxW, h.bxl, ?_, h.rl, by have := h.hbs; have := h.bsz; have := fe.size; omega, hu, hg, hg3, h.tt.trans tt, fun k hk => rm _ ((h.rm k hk).le (by omega))⟩
 ·exact (h.fr.trans t2 (fun k hk => h.fn k hk)).trans fe (fun k hk => .inr (by subst hk; exact h.bxl))
 ·rcases t3 k hk with hx | hx
  ·exact h.fn k hx
  ·exact .inr (by have := h.fr.size; omega)
 ·exact (h.way.frm t2 (fun k hk hf => h.ap k hk hf)).frm fe (fun k hk e => h.bxW (e ▸ hk))
 ·rcases t3 k hf with hx | hx
  ·exact h.ap k hk hx
  ·have := Wlt k hk; omega
 ·have e1 := StepsA.grow grw xs fs hi h.sts
  have e2 := StepsA.frm t2 (fun k hk => .inl hk) xs fs hi e1;have e3 := StepsA.frm fe (fun k hk => .inr (.inr (.inr hk))) xs fs hi e2;exact StepsA.mono (fun k hk => .inr hk) xs fs hi e3
def putN4 (w : World) (b : Nat) (v3 v4 v5 v6 : Value) : World := (((w.setCell ⟨b, 3, none⟩ v3).setCell ⟨b, 4, none⟩ v4).setCell ⟨b, 5, none⟩ v5).setCell ⟨b, 6, none⟩ v6
theorem putN_block {w : World} {b : Nat} {a0 a1 a2 a3 a4 a5 a6 : Value} {T : TypeId} (h : w.heap[b]? = some (.cells #[a0, a1, a2, a3, a4, a5, a6] T)) (v3 v4 v5 v6 : Value) : (putN4 w b v3 v4 v5 v6).heap[b]? = some (.cells #[a0, a1, a2, v3, v4, v5, v6] T) := by
 unfold putN4;rw [heap_setCell_same _ _ 6 _ _ _ (heap_setCell_same _ _ 5 _ _ _ (heap_setCell_same _ _ 4 _ _ _ (heap_setCell_same _ _ 3 _ _ _ h)))]
 rfl
theorem putN_frm {F : Nat → Prop} {w w1 : World} (h : Frm F w w1) (b : Nat) (v3 v4 v5 v6 : Value) (hb : F b ∨ w.heap.size ≤ b) : Frm F w (putN4 w1 b v3 v4 v5 v6) := (((h.setCell _ _ hb).setCell _ _ hb).setCell _ _ hb).setCell _ _ hb
theorem two_ok (g1 g2 g3 : Int) (h1 : 2 ≤ g1 ∧ g1 < 640) (h2 : 2 ≤ g2 ∧ g2 < 640) (h3 : 0 ≤ g3 ∧ g3 ≤ 18446744073709551615) : NodOk ⟨false, [g3], [], [g1, g2]⟩ := by
 refine ⟨by simp, by simp, by simp, fun x hx => ?_, fun x hx => (by cases hx), fun x hx => ?_⟩
 ·rw [List.mem_singleton] at hx; subst hx; exact h3
 ·simp only [List.mem_cons, List.not_mem_nil, or_false] at hx
  rcases hx with rfl | rfl <;> omega
theorem two_right (g1 g2 g3 : Int) (h1 : 2 ≤ g1 ∧ g1 < 640) (h2 : 2 ≤ g2 ∧ g2 < 640) : rightN ⟨false, [g3], [], [g1, g2]⟩ = true := by
 refine (rightN_iff _).2 ⟨(plainB_iff _).2 ⟨fun i hi => by simp at hi, fun x hx => (by cases hx), fun x hx => ?_⟩, rfl, fun hx => (by cases hx), by simp [sizeN]⟩;simp only [List.mem_cons, List.not_mem_nil, or_false] at hx
 rcases hx with rfl | rfl
 ·exact h1
 ·exact h2
theorem vput_some (w : World) (d s g : Nat) (dk : DkS) (st : ShS) (r : Nat) (F : Nat → Prop) (h : TS w d s g dk st r F) (G : Good dk st) (root : Int) (h0 : root ≠ 0) (H : Nat) (F0 : List Mk) (P0 : List Int) (ht : IsT (Rn dk) H root F0 P0) (hs : SortM F0) (hl : LiveL st P0) (hH : H ≤ 9) (hr : r + H + 1 ≤ 640) (hroom : Room dk st (2 * H + 3)) (key : Int) (hk : 0 ≤ key ∧ key ≤ 18446744073709551615) (val : ByteArray) (hv : val.size ≤ 40) :
  Calls Tryz.prog 120 #[.pointer (some ⟨g, 0, none⟩), .int .i64 root, .int .u64 key, .string val] w (PutT w d s g dk st F (insE key val (entsM F0)) (2 * H + 3)) := by
 have HL := Hd h.lt;have hg : F g := by obtain ⟨_, _, _, he⟩ := h; exact (he g).2 (.inr (.inr rfl))
 have DN := Hd (down_is w d s g dk st r F h G root H F0 P0 ht hs hH hr key hk);have h0' : (root == 0) = false := by rw [beq_eq_false_iff_ne]; exact h0
 have HG := Hd G;have HS := Hd hs;have HLV := Hd hl;have HRM := Hd hroom;have HV := Hd hv;have HKB := Hd hk;clear h G h0 ht hs hl hr hroom hv hk;go_enter Tryz.func120, Tryz.ntmps120;go_wp2_with fail;refine DN.out.mono ?_;rintro e w1 ⟨v, fs, xs, x, M, i, fd, FL, FR, Fh, PC, hi, rfl, hD⟩;obtain ⟨va, vc, rfl, _, _⟩ := own_shape7 hD.own;obtain ⟨vn, hvn⟩ : ∃ vn, (xs.reverse ++ [x]).length = vn := ⟨_, rfl⟩
 have W2 : Way (w1.alloc (.cells #[.slice va (xs.reverse ++ [x]).length vc] 177)) w1.heap.size (xs.reverse ++ [x]) (WF w1.heap.size (.slice va (xs.reverse ++ [x]).length vc)) :=
  ⟨_, ⟨heap_alloc_new w1 _, own_frmZ (F := fun _ => False) hD.own ((Frm.refl _ w1).alloc _) (fun _ _ hx => hx), fun e => by have := (hD.own.lt _ e).2; omega⟩, fun _ => Iff.rfl⟩
 have hxl : xs.length = H := by rw [StepsA.len _ _ _ hD.st]; exact hD.ln
 have PO := Hd (way_pop _ w1.heap.size xs.reverse x _ W2);have HD := Hd hD;rw [hvn] at PO HD ⊢;clear hD W2 hvn hxl;go_wp2_with fail;refine PO.out.mono ?_;rintro e w3 ⟨rfl, hw3, hf3⟩;have hP := popS_of HL.out hg HD.out hw3 hf3;unfold StepV.val;go_upto_region 7 with fail
 rename_i KK hKK;obtain ⟨w4, hw4⟩ : ∃ w4, w3.alloc (.cells #[.int .i64 x.p, .int .i64 x.i, .bool x.fd, .bool x.lf, .slice x.ak x.lk x.ck, .slice x.av x.lv x.cv, .slice x.ac x.lc x.cc] 183) = w4 := ⟨_, rfl⟩
 obtain ⟨bs, hbs⟩ : ∃ bs, w3.heap.size = bs := ⟨_, rfl⟩
 obtain ⟨bw, hbw⟩ : ∃ bw, w1.heap.size = bw := ⟨_, rfl⟩
 rw [hw4, hbs, hbw] at hP;rw [hw4, hbs, hbw];have hD := HD.out;have hM := hD.nt;have hmk : M.K.length ≤ 1000 := hP.lf.a.r.ok.k1;have hpa := hP.lf.a.r.ok
 have nodx : nodV M x.ak x.av x.ac x.ck x.cv x.cc = .agg #[.bool x.lf, .slice x.ak x.lk x.ck, .slice x.av x.lv x.cv, .slice x.ac x.lc x.cc] := by
  unfold nodV; rw [hP.lf.lf, hP.lf.lk, hP.lf.lv, hP.lf.lc]
 have hsort : SortM (FL ++ Fh ++ FR) := by rw [hD.eF]; exact HS.out
 have hlive : LiveL st (x.p :: (PC ++ [])) := by rw [List.append_nil]; exact HLV.out.perm hD.eP.symm
 have hAt := put_at key val hD.ctx hD.nt hsort hD.bL hD.bR hlive;rw [hD.eF] at hAt;have hMr := Rn_right hD.xp;have hMN := NB.of_right hMr.1;have hwh := whole_of hD.nt;have hlf : M.leaf = true := by rw [leaf_of hD.nt]; rfl
 have hmk9 : M.K.length ≤ 900 := by
  have := hMN.2.2;unfold sizeN at this;rw [hlf] at this;simp only [if_true] at this;omega
 have hcost := put_cost M key val hlf hwh
 have hNB : NB (putN M key val) 320 := by
  refine ⟨fun u hu => ?_, fun c hc => ?_, ?_⟩
  ·unfold putN at hu
   split at hu
   ·simp only [List.mem_append, List.mem_singleton] at hu
    rcases hu with (hu | rfl) | hu
    ·exact hMN.1 u (List.mem_of_mem_take hu)
    ·exact HV.out
    ·exact hMN.1 u (List.mem_of_mem_drop hu)
   ·exact hMN.1 u hu
  ·unfold putN at hc
   split at hc
   ·cases hc
   ·exact hMN.2.1 c hc
  ·have h1 := hMN.2.2
   have h2 := HV.out
   split at hcost <;> omega
 have hKne : (putN M key val).K ≠ [] := by
  unfold putN;rw [if_pos (by rw [hlf, hwh]; rfl)];intro e;have := congrArg List.length e;simp at this
 have PT : Hid (∀ wy, Frm F w4 wy → Calls Tryz.prog 143 #[.agg #[.bool x.lf, .slice x.ak x.lk x.ck, .slice x.av x.lv x.cv, .slice x.ac x.lc x.cc], .int .u64 key, .string val] wy fun e w' => NodBack wy.heap.size (putN M key val) e w' ∧ Below wy.heap.size wy w') := Hd (fun wy hf => by
  rw [← nodx];exact put_is M x.ak x.av x.ac x.ck x.cv x.cc wy (hP.lf.a.frm hf (fun k hk => .inl hk)).r key val hlf hwh hmk9 HKB.out (by have := HV.out; omega))
 have GW : Hid (∀ wg bk bv bc dk0 dv dc, Below w4.heap.size w4 wg → NodR wg (putN M key val) bk bv bc dk0 dv dc → LoR w4.heap.size bk bv bc → Calls Tryz.prog 144 #[.pointer (some ⟨g, 0, none⟩), .int .i64 x.p, nodV (putN M key val) bk bv bc dk0 dv dc] wg (Grown wg d s g dk st (r + H + 1) F fs 0 (insE key val (entsM F0)))) := Hd (fun wg bk bv bc dk0 dv dc b hn hlo => by
  have hlt : ∀ k, F k → k < w4.heap.size := hP.ts.lt;exact vgrow_is wg d s g dk st (r + H + 1) F (hP.ts.below b) HG.out (HRM.out.le (by omega)) fs 0 x.p (putN M key val) _ hAt hNB hKne bk bv bc dk0 dv dc (RowsA.new hn hlo.1 hlo.2.1 hlo.2.2 hlt))
 simp only [nodV] at GW;have HPS := Hd hP;have HSB := Hd hP.box;have HSL : Hid (bs < w4.heap.size) := Hd (by rw [hP.bs1]; omega);have HSF : Hid (¬ F bs) := Hd (fun hx => by have := HL.out _ hx; have := hP.bs0; omega);have HBK : Hid (Below w4.heap.size w4 w4.drew) := Hd Br.drew;have HSZ4 : Hid (w4.drew.heap.size = w4.heap.size) := Hd rfl;have HFL : Hid (fs.length = H) := Hd hD.ln;clear hP hw4 hbs hbw hD hM hmk hpa nodx hsort hlive hAt hMr hMN hwh hlf hmk9 hcost hNB hKne hw3 hf3 PO DN
 have REST : Hid (∀ (t1 t2 t3 t4 t5 t6 t7 t12 t14 t15 t16 t17 t18 t19 t20 t21 t22 t23 t24 t25 t26 t27 t28 t29 t30 t31 t32 t33 t34 t35 t36 t37 t38 t39 t40 t41 t42 t43 t44 t45 t46 t47 : Value) (we : World) (bx : Nat) (dk' : DkS) (st' : ShS) (F' : Nat → Prop) (KM : List Int) (QM : List Kid) (g1 g2 g3 : Int), PutJ w d s g dk st (r + H + 1) F (insE key val (entsM F0)) bw bx (2 * H + 3) we fs xs 0 dk' st' F' (WF bw (.slice va vn vc)) KM QM g1 g2 g3 hi → KK { tmps := #[.pointer (some ⟨g, 0, none⟩), t1, t2, t3, t4, t5, t6, t7, .int .i64 0, .int .i64 0, .pointer (some ⟨bw, 0, none⟩), .int .i64 0, t12, .pointer (some ⟨bx, 0, none⟩), t14, t15, t16, t17, t18, t19, t20, t21, t22, t23, t24, t25, t26, t27, t28, t29, t30, t31, t32, t33, t34, t35, t36, t37, t38, t39, t40, t41, t42, t43, t44, t45, t46, t47, undef, undef, undef, undef, undef, undef, undef, undef, undef, undef, undef, undef, undef, undef, undef, undef, undef, undef, undef, undef, undef, undef, undef, undef, undef, undef, undef, undef, undef, undef, undef, undef, undef, undef, undef, undef, undef, undef, undef, undef, undef, undef, undef, undef, undef, undef, undef, undef, undef, undef, undef, undef, undef, undef, undef, undef, undef, undef, undef, undef], defers := [] } we) := Hd (by
  intro t1 t2 t3 t4 t5 t6 t7 t12 t14 t15 t16 t17 t18 t19 t20 t21 t22 t23 t24 t25 t26 t27 t28 t29 t30 t31 t32 t33 t34 t35 t36 t37 t38 t39 t40 t41 t42 t43 t44 t45 t46 t47 we bx dk' st' F' KM QM g1 g2 g3 hJ;refine hKK _ _ ?_;have HJ0 := Hd hJ;clear hJ PT GW HSB HSL HSF HBK HSZ4 HPS
  
  go_wp2_with fail
  go_loopw [11] (fun p wr => ∃ fs' xs' hh dk' st' F' FW KM QM g1 g2 g3 hi', p = .int .i64 0 ∧ PutJ w d s g dk st (r + H + 1) F (insE key val (entsM F0)) bw bx (2 * H + 3) wr fs' xs' hh dk' st' F' FW KM QM g1 g2 g3 hi') (fun _ wr => wayN bw wr)
  case atStart => exact ⟨fs, xs, 0, dk', st', F', _, KM, QM, g1, g2, g3, hi, rfl, HJ0.out⟩
  case round =>
   obtain ⟨fs', xs', hh, dk', st', F', FW, KM, QM, g1, g2, g3, hi', rfl, hJ⟩ := hrel;have hlen := StepsA.len _ _ _ hJ.sts;have HJ := Hd hJ;obtain ⟨c0, c1, c2, f0, f1, f2⟩ := gr_cells hJ.gb;have WD := Hd (way_depth wr bw xs'.reverse FW hJ.way);clear HJ0
   cases xs' with
   | nil =>
    have hfs : fs' = [] := List.length_eq_zero_iff.1 (by rw [← hlen]; rfl);subst hfs;have hup := hJ.up;have hgr := hJ.gr;have hts := hJ.ts;rw [show ([] : List StepV).reverse.length = 0 from rfl] at WD
    rcases hgr with ⟨q, hKM, hQM, hg1, hg2⟩ | ⟨q1, q2, hKM, hQM, hg1, hg2, hg22⟩
    ·have hT := put_one (by rw [← hKM]; exact hup) g1 g2 g3 (.inl ⟨q, rfl, hQM, hg1, hg2⟩)
     have FIN : Hid (PutT w d s g dk st F (insE key val (entsM F0)) (2 * H + 3) (.returned (.tuple #[.int .i64 g1, .int .i64 0])) wr) := Hd ⟨g1, dk', st', r + H + 1, rfl, ⟨F', hJ.ts, hJ.fr, hJ.fn⟩, hT, hJ.tt, fun k hk => (hJ.rm k hk).le (by omega)⟩;subst hg2;clear hT hJ hup hg1 hQM hKM hts;go_wp2_with fail;refine WD.out.mono ?_;rintro e w9 ⟨rfl, rfl⟩;go_wp2_with fail;go_ret2;exact FIN.out
    ·obtain ⟨wm, hwm⟩ : ∃ wm, wr.alloc (.cells #[.int .u64 g3] 35) = wm := ⟨_, rfl⟩
     have hym : wm.heap[bx]? = some (grO g1 g2 g3) := by rw [← hwm]; exact (heap_alloc_old wr _ (Array.getElem?_eq_some_iff.1 hJ.gb).1).trans hJ.gb
     obtain ⟨m0, m1, m2, _⟩ := gr_cells hym;have zm : wm.heap.size = wr.heap.size + 1 := by rw [← hwm]; simp
     obtain ⟨w9, hw9⟩ : ∃ w9, wm.alloc (.cells #[.int .i64 g1, .int .i64 g2] 3) = w9 := ⟨_, rfl⟩
     have bm : Below wr.heap.size wr wm := by rw [← hwm]; exact (Below.refl _ wr).alloc (Nat.le_refl _) _
     have b9 : Below wr.heap.size wr w9 := by rw [← hw9]; exact bm.alloc bm.size _
     have z9 : w9.heap.size = wr.heap.size + 2 := by rw [← hw9]; simp [zm]
     have xa9 : w9.heap[wr.heap.size]? = some (.cells #[.int .u64 g3] 35) := by rw [← hw9]; refine (heap_alloc_old wm _ (by omega)).trans ?_; rw [← hwm]; exact heap_alloc_new wr _
     have xb9 : w9.heap[wr.heap.size + 1]? = some (.cells #[.int .i64 g1, .int .i64 g2] 3) := by rw [← hw9, ← zm]; exact heap_alloc_new wm _
     have hheads := hup.heads hJ.tt.g;rw [hQM] at hheads;have h1b := hheads g1 (by rw [hg1]; simp [kP]);have h2b := hheads g2 (by rw [hg2]; simp [kP]);have hnok := two_ok g1 g2 g3 h1b h2b hJ.g3
     have hnr : NodR w9 ⟨false, [g3], [], [g1, g2]⟩ (some ⟨wr.heap.size, 0, none⟩) none (some ⟨wr.heap.size + 1, 0, none⟩) 1 0 2 := by
      refine ⟨.inr ⟨_, 0, rfl, by omega, fun j u hu => ?_⟩, .inl rfl, .inr ⟨_, 0, rfl, by omega, fun j u hu => ?_⟩, by simp, by simp [maxLen], by simp, by simp, by simp, by simp [maxLen], hnok⟩
      ·match j with
       | 0 => injection hu with hu; subst hu; rw [Go.Joins.cell_of_block xa9]; rfl
       | j + 1 => simp at hu
      ·match j with
       | 0 => injection hu with hu; subst hu; rw [Go.Joins.cell_of_block xb9]; rfl
       | 1 => injection hu with hu; subst hu; rw [Go.Joins.cell_of_block xb9]; rfl
       | j + 2 => simp at hu
     have hright := two_right g1 g2 g3 h1b h2b;have hFlt : ∀ k, F' k → k < wr.heap.size := hts.lt
     have PL : Hid (Calls Tryz.prog 142 #[.pointer (some ⟨g, 0, none⟩), .agg #[.bool false, .slice (some ⟨wr.heap.size, 0, none⟩) 1 1, .slice none 0 0, .slice (some ⟨wr.heap.size + 1, 0, none⟩) 2 2]] w9 (PutT w d s g dk st F (insE key val (entsM F0)) (2 * H + 3))) := Hd (by
      refine (vplace_is w9 d s g dk' st' (r + H + 1) F' (hts.below b9) hJ.tt.g (hJ.rm 0 (by rw [Nat.zero_add]; exact HRM.out)) _ hright _ _ _ 1 0 2 (RowsA.new (lo := wr.heap.size) hnr (fun x hx => by injection hx with hx; subst hx; exact Nat.le_refl _) (fun x hx => by cases hx) (fun x hx => by injection hx with hx; subst hx; exact Nat.le_succ _) hFlt)).mono ?_;rintro e w10 ⟨q, dk2, st2, rfl, ⟨F2, t1, t2, t3⟩, hpl, hrm⟩;have hT := put_two (by rw [← hKM]; exact hup) (.inr ⟨q1, q2, rfl, hQM, hg1, hg2, hg22⟩) rfl rfl rfl rfl hpl
      refine ⟨q, dk2, st2, r + H + 1, rfl, ⟨F2, t1, ?_, fun k hk => ?_⟩, hT, hJ.tt.trans hpl.tt, fun k hk => hrm k ((hJ.rm k hk).le (by simp))⟩
      ·have f9 : Frm F w w9 := hJ.fr.trans (G := fun _ => False) (Frm.of_below b9) (fun _ hx => hx.elim)
       exact f9.trans t2 (fun k hk => hJ.fn k hk)
      ·rcases t3 k hk with h1 | h1
       ·exact hJ.fn k h1
       ·exact .inr (by have := hJ.fr.size; omega))
     have hg20 : (g2 == 0) = false := by rw [beq_eq_false_iff_ne]; omega
     clear hJ hup hg1 hg2 hg22 hQM hKM hts b9 z9 hym bm xa9 xb9 hheads h1b h2b hnok hnr hright hFlt;go_wp2_with fail;refine WD.out.mono ?_;rintro e w8 ⟨rfl, rfl⟩;go_wp2_with fail;refine PL.out.mono ?_;rintro e w10 ⟨q, dk2, st2, r2, rfl, z2, z3, z4, z5⟩;have FIN : Hid (PutT w d s g dk st F (insE key val (entsM F0)) (2 * H + 3) (.returned (.tuple #[.int .i64 q, .int .i64 0])) w10) := Hd ⟨q, dk2, st2, r2, rfl, z2, z3, z4, z5⟩;clear z2 z3 z4 z5;go_wp2_with fail;go_ret2;exact FIN.out
   | cons x xs' =>
    cases fs' with
    | nil => exact absurd hlen (by simp)
    | cons f fs' =>
     have hkl : KM.length ≤ 1 := by
      rcases hJ.gr with ⟨_, h, _⟩ | ⟨_, _, h, _⟩ <;> rw [h] <;> simp
     have PO := Hd (way_pop wr bw xs'.reverse x FW (by have := hJ.way; rwa [List.reverse_cons] at this));have hbw : FW bw := by obtain ⟨v, hi, he⟩ := hJ.way; exact (he bw).2 (.inl rfl)
     obtain ⟨n, hn⟩ : ∃ n, xs'.length = n := ⟨_, rfl⟩
     have hrl : (x :: xs').reverse.length = n + 1 := by rw [List.length_reverse, List.length_cons, hn]
     rw [hrl] at WD;have hn0 : (0 : Int) < (n : Int) + 1 := by omega
     have HN := Hd hn;clear hJ hlen hn hrl;go_wp2_with fail;refine WD.out.mono ?_;rintro e w8 ⟨rfl, rfl⟩;go_wp2_with fail;refine PO.out.mono ?_;rintro e w2 ⟨rfl, hw2, hf2⟩;obtain ⟨cb, off, e1, e2, e3, e4, e5, ⟨c, e6⟩, e7, e8, e9, hready⟩ := round_ready HL.out HJ.out hkl hw2 hf2 hbw;have HRY := Hd hready;have E4 := Hd e4;have E8 := Hd e8;have HGR := Hd HJ.out.gr;have HW2 := Hd hw2;unfold StepV.val;have EE := Hd (And.intro e1 e2);clear hready hw2 hf2 hbw e1 e2 e4 e8 c0 c1 c2 f0 f1 f2;go_upto_region 10 with fail
     obtain ⟨w3, hw3⟩ : ∃ w3, w2.alloc (.cells #[.int .i64 x.p, .int .i64 x.i, .bool x.fd, .bool x.lf, .slice x.ak x.lk x.ck, .slice x.av x.lv x.cv, .slice x.ac x.lc x.cc] 183) = w3 := ⟨_, rfl⟩
     have b3 : Below w2.heap.size w2 w3 := by rw [← hw3]; exact (Below.refl _ w2).alloc (Nat.le_refl _) _
     have X3 : w3.heap[w2.heap.size]? = some (.cells #[.int .i64 x.p, .int .i64 x.i, .bool x.fd, .bool x.lf, .slice x.ak x.lk x.ck, .slice x.av x.lv x.cv, .slice x.ac x.lc x.cc] 183) := by rw [← hw3]; exact heap_alloc_new w2 _
     rw [EE.out.1, EE.out.2] at X3;obtain ⟨_, b1, _, _, _, _, b6⟩ := cells7 X3;obtain ⟨c0, c1, c2, _⟩ := gr_cells (kept e9 b3);have q6 := (b3.cell (p := ⟨cb, off + f.KA.length, none⟩) e5).trans e6
     have q7 : w3.frozen? ⟨cb, off + f.KA.length, none⟩ = false := by
      have h7 := e7;unfold World.frozen? at h7 ⊢;rw [show w3.heap[(⟨cb, off + f.KA.length, none⟩ : Addr).block]? = w2.heap[(⟨cb, off + f.KA.length, none⟩ : Addr).block]? from b3.block cb e5];exact h7
     have q8 : (f.KA.length : Int) < (x.lc : Int) := by omega
     have HRY4 := Hd (HRY.out w3 hw3.symm);rw [hw3];clear hw3 X3 b3 e3 e5 e6 e7 e9 HRY;go_upto_region 11 with fail
     obtain ⟨w4, hw4⟩ : ∃ w4, w3.setCell ⟨cb, off + f.KA.length, none⟩ (.int .i64 g1) = w4 := ⟨_, rfl⟩
     obtain ⟨lo, hRS, rA, ep, box4, l1, l2, l3⟩ := HRY4.out w4 hw4.symm;obtain ⟨bs, hbs⟩ : ∃ bs, w2.heap.size = bs := ⟨_, rfl⟩
     rw [hbs] at hRS box4;rw [hw4, hbs];clear hw4 hbs HRY4 b1 b6 c0 c1 c2 q6 q7 q8;have l4 := E4.out
     have nodx : nodV (setKid f.N f.KA.length g1) x.ak x.av x.ac x.ck x.cv x.cc = .agg #[.bool x.lf, .slice x.ak x.lk x.ck, .slice x.av x.lv x.cv, .slice x.ac x.lc x.cc] := by
      unfold nodV setKid
      dsimp only
      rw [List.length_set, l1, l2, l3, l4]
     have hfok := HJ.out.up.frame;have hone := up_one hfok g1;have HRM4 : Hid (Room dk' st' 2) := Hd ((HJ.out.rm 0 (by rw [Nat.zero_add]; exact HRM.out)).le (by simp; omega));obtain ⟨d0, _, _, d3, d4, d5, d6⟩ := cells7 box4;rw [ep] at d0;obtain ⟨c0, c1, c2, f0, f1, f2⟩ := gr_cells hRS.gb;have F'lt : ∀ k, F' k → k < w4.heap.size := hRS.ts.lt
     rcases HGR.out with ⟨q, hKM, hQM, hg1, hg2⟩ | ⟨q1, q2, hKM, hQM, hg1, hg2, hg22⟩
     ·have eN : upN f KM (kP QM) = setKid f.N f.KA.length g1 := by rw [hone, hKM, hQM, hg1]; rfl
      have GW : Hid (Calls Tryz.prog 144 #[.pointer (some ⟨g, 0, none⟩), .int .i64 f.page, .agg #[.bool x.lf, .slice x.ak x.lk x.ck, .slice x.av x.lv x.cv, .slice x.ac x.lc x.cc]] w4 (Grown w4 d s g dk' st' (r + H + 1) F' fs' (hh + 1) (insE key val (entsM F0)))) := Hd (by
       rw [← nodx, ← eN];rw [← eN] at rA;exact vgrow_is w4 d s g dk' st' (r + H + 1) F' hRS.ts hRS.tt.g HRM4.out fs' (hh + 1) f.page _ _ hRS.at_ hRS.nb hRS.nk _ _ _ _ _ _ rA)
      have HRS := Hd hRS;subst hg2;clear hRS rA box4 l1 l2 l3 l4 nodx hone eN hKM hQM hg1 hfok F'lt;go_wp2_with fail;refine GW.out.mono ?_;rintro e w7 ⟨k1, k2, k3, KM2, QM2, dk2, st2, rfl, ⟨F2, t1, t2, t3⟩, u1, u2, u3, u4, u5, u6⟩;have hy7 : w7.heap[bx]? = some (grO g1 0 g3) := (t2.block bx (Array.getElem?_eq_some_iff.1 HRS.out.gb).1 HRS.out.bxF).trans HRS.out.gb;have hJn := round_next HRS.out t1 t2 t3 (put3_frm (Frm.refl (fun k => k = bx) w7) bx k1 k2 k3 (.inl rfl)) (put3_block (x := k1) (y := k2) (z := k3) hy7) u1 u2 ⟨u5, u6⟩ u3 u4;have FIN := Hd hJn;have WN1 := Hd (wayN_of hJn.way)
      have WN2 := Hd (wayN_of HJ.out.way);have HL2 := HN.out;obtain ⟨c0, c1, c2, f0, f1, f2⟩ := gr_cells hy7;clear hJn t1 t2 t3 u1 u2 u3 u4 u5 u6 hy7;unfold put3 at FIN WN1;go_wp2_with fail;go_roundw
      case rel => exact ⟨fs', xs', hh + 1, dk2, st2, F2, FW, KM2, QM2, k1, k2, k3, lo, rfl, FIN.out⟩
      case measure =>
       rw [WN1.out, WN2.out];simp only [List.length_reverse, List.length_cons];omega
     ·have eN : hangN (setKid f.N f.KA.length g1) (f.KA.length : Int) g3 g2 = upN f KM (kP QM) := by rw [hone, up_two hfok, hKM, hQM, hg1, hg2]; rfl
      have hkn : f.KA.length ≤ (setKid f.N f.KA.length g1).K.length := by rw [hone]; simp [upN]
      have hwn : wholeB (setKid f.N f.KA.length g1) = true := by
       have h0 := (wholeB_branch hfok.lf).1 ((rightN_iff _).1 hfok.r).2.1;exact (wholeB_branch (n := setKid f.N f.KA.length g1) hfok.lf).2 ⟨by unfold setKid; dsimp only; rw [List.length_set]; exact h0.1, h0.2⟩
      have hk8 : (setKid f.N f.KA.length g1).K.length ≤ 800 := by
       have h0 := ((rightN_iff _).1 hfok.r).2.2.2;unfold sizeN at h0;rw [hfok.lf] at h0;simp only [Bool.false_eq_true, if_false] at h0
       show f.N.K.length ≤ 800
       omega
      have hg2b := HJ.out.up.heads HJ.out.tt.g g2 (by rw [hQM, hg2]; simp [kP])
      have HGC : Hid (Calls Tryz.prog 146 #[.agg #[.bool x.lf, .slice x.ak x.lk x.ck, .slice x.av x.lv x.cv, .slice x.ac x.lc x.cc], .int .i64 x.i, .int .u64 g3, .int .i64 g2] w4 fun e w' => NodBack w4.heap.size (upN f KM (kP QM)) e w' ∧ Below w4.heap.size w4 w') := Hd (by
       rw [← nodx, ← eN, EE.out.2];exact hang_is (setKid f.N f.KA.length g1) x.ak x.av x.ac x.ck x.cv x.cc w4 rA.r f.KA.length g3 g2 hfok.lf hwn hkn hk8 HJ.out.g3 (by omega))
      have hg20 : (g2 != 0) = true := by rw [bne_iff_ne]; omega
      have d1 := (cells7 box4).2.1;have HRS := Hd hRS;have HBX4 := Hd box4;have HFL4 := Hd F'lt;clear hRS rA box4 l1 l2 l3 l4 nodx hone eN hKM hQM hg1 hg2 hg22 hfok hkn hwn hk8 hg2b F'lt;go_wp2_with fail;refine HGC.out.mono ?_;rintro e w5 ⟨⟨bk, bv, bc, dk0, dv, dc, rfl, hRN, r1, r2, r3⟩, b5⟩;have X5 := kept HBX4.out b5;obtain ⟨y0, y1, y2, y3, y4, y5, y6⟩ := cells7 X5;have k3 := ufb X5 3;have k4 := ufb X5 4;have k5 := ufb X5 5;have k6 := ufb X5 6;obtain ⟨N', hN'⟩ : ∃ N', upN f KM (kP QM) = N' := ⟨_, rfl⟩
      rw [hN'] at hRN HRS ⊢;have HRN := Hd hRN;have HR3 := Hd (And.intro r1 (And.intro r2 r3));have HB5 := Hd b5;have HX5 := Hd X5;simp only [nodV];clear hRN r1 r2 r3 b5 X5 d0 d1 d3 d4 d5 d6 c0 c1 c2 f0 f1 f2 hN' HGC;go_upto_region 13 with fail
      obtain ⟨w6, hw6⟩ : ∃ w6, (((w5.setCell ⟨bs, 3, none⟩ (.bool N'.leaf)).setCell ⟨bs, 4, none⟩ (.slice bk N'.K.length dk0)).setCell ⟨bs, 5, none⟩ (.slice bv N'.V.length dv)).setCell ⟨bs, 6, none⟩ (.slice bc N'.C.length dc) = w6 := ⟨_, rfl⟩
      have F56 : Frm (fun k => k = bs) w5 w6 := hw6 ▸ putN_frm (Frm.refl _ w5) bs (.bool N'.leaf) (.slice bk N'.K.length dk0) (.slice bv N'.V.length dv) (.slice bc N'.C.length dc) (.inl rfl);have X6 : w6.heap[bs]? = some (.cells #[.int .i64 x.p, .int .i64 x.i, .bool x.fd, .bool N'.leaf, .slice bk N'.K.length dk0, .slice bv N'.V.length dv, .slice bc N'.C.length dc] 183) := hw6 ▸ putN_block HX5.out (.bool N'.leaf) (.slice bk N'.K.length dk0) (.slice bv N'.V.length dv) (.slice bc N'.C.length dc);rw [ep] at X6
      have hRS6 := HRS.out.below ((Frm.of_below HB5.out : Frm (fun k => k = bs) w4 w5).trans F56 (fun k hk => .inl hk))
      have rA6 : RowsA w6 N' bk bv bc dk0 dv dc F' := by
       have hlt4 := HRS.out.bsz
       have r0 : RowsA w5 N' bk bv bc dk0 dv dc (fun k => F' k ∨ k = bs) := RowsA.new (lo := w4.heap.size) HRN.out HR3.out.1 HR3.out.2.1 HR3.out.2.2 (fun k hk => by
        rcases hk with hk | hk
        ·exact HFL4.out k hk
        ·omega)
       exact (r0.frm F56 (fun k hk => .inr hk)).mono (fun k hk => .inl hk)
      have GW : Hid (Calls Tryz.prog 144 #[.pointer (some ⟨g, 0, none⟩), .int .i64 f.page, .agg #[.bool N'.leaf, .slice bk N'.K.length dk0, .slice bv N'.V.length dv, .slice bc N'.C.length dc]] w6 (Grown w6 d s g dk' st' (r + H + 1) F' fs' (hh + 1) (insE key val (entsM F0)))) := Hd (by
       exact vgrow_is w6 d s g dk' st' (r + H + 1) F' hRS6.ts hRS6.tt.g HRM4.out fs' (hh + 1) f.page N' _ hRS6.at_ hRS6.nb hRS6.nk _ _ _ _ _ _ rA6)
      obtain ⟨d0, d1, d2, d3, d4, d5, d6⟩ := cells7 X6;obtain ⟨c0, c1, c2, f0, f1, f2⟩ := gr_cells hRS6.gb;clear HRS;have HRS := Hd hRS6;rw [hw6];clear hw6 X6 F56 rA6 hRS6 y0 y1 y2 y3 y4 y5 y6 k3 k4 k5 k6 HRN HR3 HB5 HX5;go_wp2_with fail;refine GW.out.mono ?_;rintro e w7 ⟨k1, k2, k3, KM2, QM2, dk2, st2, rfl, ⟨F2, t1, t2, t3⟩, u1, u2, u3, u4, u5, u6⟩;have hy7 : w7.heap[bx]? = some (grO g1 g2 g3) := (t2.block bx (Array.getElem?_eq_some_iff.1 HRS.out.gb).1 HRS.out.bxF).trans HRS.out.gb
      have hJn := round_next HRS.out t1 t2 t3 (put3_frm (Frm.refl (fun k => k = bx) w7) bx k1 k2 k3 (.inl rfl)) (put3_block (x := k1) (y := k2) (z := k3) hy7) u1 u2 ⟨u5, u6⟩ u3 u4;have FIN := Hd hJn;have WN1 := Hd (wayN_of hJn.way);have WN2 := Hd (wayN_of HJ.out.way);have HL2 := HN.out;obtain ⟨c0, c1, c2, f0, f1, f2⟩ := gr_cells hy7;clear hJn t1 t2 t3 u1 u2 u3 u4 u5 u6 hy7;unfold put3 at FIN WN1;go_wp2_with fail;go_roundw
      case rel => exact ⟨fs', xs', hh + 1, dk2, st2, F2, FW, KM2, QM2, k1, k2, k3, lo, rfl, FIN.out⟩
      case measure =>
       rw [WN1.out, WN2.out];simp only [List.length_reverse, List.length_cons];omega)
 refine wp_region_held_drew (S := fun wz => Frm F w4 wz) (by kernel_rfl) ((Frm.refl F w4).drew) (fun hS => ?_);refine Hu 0 37 hS ?_;simp only [SL];refine Hu 1 38 hS ?_;simp only [SL];refine Hv 2 39 ?v2x3 hS ?h2x3 ?_
 case h2x3 =>
  intro w9 s9;have cN0 := cl ((s9.block bs HSL.out HSF.out).trans HSB.out) 0 rfl;clear s9;go_simp;try (with_reducible rfl)
 simp only [SL];refine Hu 3 40 hS ?_;simp only [SL];refine Hv 4 41 ?v4x5 hS ?h4x5 ?_
 case h4x5 =>
  intro w9 s9;have cN3 := cl ((s9.block bs HSL.out HSF.out).trans HSB.out) 3 rfl;have cN4 := cl ((s9.block bs HSL.out HSF.out).trans HSB.out) 4 rfl;have cN5 := cl ((s9.block bs HSL.out HSF.out).trans HSB.out) 5 rfl;have cN6 := cl ((s9.block bs HSL.out HSF.out).trans HSB.out) 6 rfl;clear s9;go_simp;try (with_reducible rfl)
 simp only [SL];refine Hu 5 42 hS ?_;simp only [SL];refine Hu 6 43 hS ?_;simp only [SL];refine Hk 7 12 (fun K HK => ?_) (fun K HK => ?_)
 ·go_simp
  go_wp2_with fail;refine (PT.out _ hS).mono ?_;rintro e wp ⟨⟨bk, bv, bc, dk0, dv, dc, rfl, hR, q1, q2, q3⟩, b7⟩;simp only [nodV];refine HK.out _ _ ?_ ?_
  ·exact hS.trans (G := fun _ => False) (Frm.of_below b7) (fun _ hx => hx.elim)
  clear HK K;try simp only [Act.put, SL]
  have hS9 := hS.trans (G := fun _ => False) (Frm.of_below b7) (fun _ hx => hx.elim);clear hS;have hS := hS9;clear hS9;have HBK7 := Hd (HBK.out.trans (b7.mono HBK.out.size));have HR7 := Hd hR;have Q7 : Hid ((∀ y, bk = some y → w4.heap.size ≤ y.block) ∧ (∀ y, bv = some y → w4.heap.size ≤ y.block) ∧ ∀ y, bc = some y → w4.heap.size ≤ y.block) := Hd ⟨fun y hy => Nat.le_trans HBK.out.size (q1 y hy), fun y hy => Nat.le_trans HBK.out.size (q2 y hy), fun y hy => Nat.le_trans HBK.out.size (q3 y hy)⟩;clear HBK;have HBK := HBK7;clear HBK7 hR q1 q2 q3 b7;refine Hk 8 12 (fun K HK => ?_) (fun K HK => ?_)
  ·go_simp
   go_wp2_with fail;refine (GW.out _ bk bv bc dk0 dv dc HBK.out HR7.out ⟨Q7.out.1, Q7.out.2.1, Q7.out.2.2⟩).mono ?_;rintro e wh ⟨g1, g2, g3, KM, QM, dk', st', rfl, ⟨F', t1, t2, t3⟩, u1, u2, u3, u4, u5, u6⟩;refine HK.out _ _ ?_ ?_
   ·exact hS.trans t2 (fun k hk => .inl hk)
   clear HK K;try simp only [Act.put, SL]
   have hS9 := hS.trans t2 (fun k hk => .inl hk);clear hS;have hS := hS9;clear hS9;have GR8 := Hd (And.intro t1 (And.intro t2 (And.intro t3 (And.intro u1 (And.intro u2 (And.intro u3 (And.intro u4 (And.intro u5 u6))))))));have FH : Hid (Frm (fun k => k = wh.heap.size) wh wh) := Hd (Frm.refl _ _);clear t1 t2 t3 u1 u2 u3 u4 u5 u6 FH;refine Hu 9 36 hS ?_;simp only [SL];refine Hu 10 46 hS ?_;simp only [SL];refine Hu 11 47 hS ?_;simp only [SL];refine Hs 12 (fun K HK => ?_);go_simp;refine HK.out _ _ ?_ ?_
   ·exact hS.alloc _
   clear HK K;try simp only [Act.put, SL]
   have hsz0 := hS.size;have hS9 := hS.alloc (.cells #[.int .i64 0, .int .i64 0, .int .u64 0] 211);clear hS;obtain ⟨wa, hwa⟩ : ∃ wa, wh.alloc (.cells #[.int .i64 0, .int .i64 0, .int .u64 0] 211) = wa := ⟨_, rfl⟩
   obtain ⟨bx, hbx⟩ : ∃ bx, wh.heap.size = bx := ⟨_, rfl⟩
   have HBX : Hid (wa.heap[bx]? = some (grO 0 0 0)) := Hd (by rw [← hwa, ← hbx]; exact heap_alloc_new _ _);have BXL : Hid (w4.heap.size ≤ bx) := Hd (by rw [← hbx]; exact hsz0);have BXR : Hid (bx < wa.heap.size) := Hd (by rw [← hwa, ← hbx]; simp);have NB8 : Hid (¬ F' bx) := Hd (fun hx => by have := GR8.out.1.lt _ hx; omega);have FE : Hid (Frm (fun k => k = bx) wh wa) := Hd (by rw [← hwa]; exact (Frm.refl _ wh).alloc _);rw [hwa] at hS9;rw [hwa, hbx];have hS := hS9;clear hS9 hwa hbx;obtain ⟨a0, a1, a2, f0, f1, f2⟩ := gr_cells HBX.out;refine Hs 13 (fun K HK => ?_);go_simp;refine HK.out _ _ ?_ ?_
   ·exact put3_frm hS _ _ _ _ (.inr BXL.out)
   clear HK K;try simp only [Act.put, SL]
   have hS9 := put3_frm hS bx g1 g2 g3 (.inr BXL.out);clear hS;unfold put3 at hS9;have hS := hS9;clear hS9 a0 a1 a2 f0 f1 f2;refine Hu 14 11 hS ?_;simp only [SL];refine wpAnyH_done (by kernel_rfl) ?_ _;have g8 := GR8.out
   exact REST.out _ _ _ _ _ _ _ _ _ _ _ _ _ _ _ _ _ _ _ _ _ _ _ _ _ _ _ _ _ _ _ _ _ _ _ _ _ _ _ _ _ _ _ _ _ _ _ _ _ _ _ _ (putJ_start HPS.out HBK.out g8.1 g8.2.1 g8.2.2.1 NB8.out BXL.out (put3_frm FE.out bx g1 g2 g3 (.inl rfl)) (put3_block HBX.out) g8.2.2.2.1 g8.2.2.2.2.1 ⟨g8.2.2.2.2.2.2.2.1, g8.2.2.2.2.2.2.2.2⟩ g8.2.2.2.2.2.1 (fun k hk => g8.2.2.2.2.2.2.1 (k + 2 * fs.length + 1) (by rw [HFL.out]; exact hk.le (by omega))))
  ·go_simp
   refine HK.out _ _ ?_ ?_
   ·exact hS.alloc _
   clear HK K;try simp only [Act.put, SL]
   have hsz0 := hS.size;have hS9 := hS.alloc (.cells #[.int .i64 0, .int .i64 0, .int .u64 0] 211);clear hS;obtain ⟨wa, hwa⟩ : ∃ wa, wp.alloc (.cells #[.int .i64 0, .int .i64 0, .int .u64 0] 211) = wa := ⟨_, rfl⟩
   obtain ⟨bx, hbx⟩ : ∃ bx, wp.heap.size = bx := ⟨_, rfl⟩
   have HBX : Hid (wa.heap[bx]? = some (grO 0 0 0)) := Hd (by rw [← hwa, ← hbx]; exact heap_alloc_new _ _);have BXL : Hid (w4.heap.size ≤ bx) := Hd (by rw [← hbx]; exact hsz0);have BXR : Hid (bx < wa.heap.size) := Hd (by rw [← hwa, ← hbx]; simp);have HBK9 : Hid (Below w4.heap.size w4 wa) := Hd (by rw [← hwa]; exact HBK.out.alloc HBK.out.size _);clear HBK;have HBK := HBK9;clear HBK9;have HR9 := Hd (HR7.out.below (show Below wp.heap.size wp wa from by rw [← hwa]; exact (Below.refl _ wp).alloc (Nat.le_refl _) _));clear HR7;have HR7 := HR9;clear HR9;rw [hwa] at hS9;rw [hwa, hbx];have hS := hS9
   clear hS9 hwa hbx;refine Hs 8 (fun K HK => ?_);go_simp;go_wp2_with fail;refine (GW.out _ bk bv bc dk0 dv dc HBK.out HR7.out ⟨Q7.out.1, Q7.out.2.1, Q7.out.2.2⟩).mono ?_;rintro e wh ⟨g1, g2, g3, KM, QM, dk', st', rfl, ⟨F', t1, t2, t3⟩, u1, u2, u3, u4, u5, u6⟩;refine HK.out _ _ ?_ ?_
   ·exact hS.trans t2 (fun k hk => .inl hk)
   clear HK K;try simp only [Act.put, SL]
   have hS9 := hS.trans t2 (fun k hk => .inl hk);clear hS;have hS := hS9;clear hS9;have GR8 := Hd (And.intro t1 (And.intro t2 (And.intro t3 (And.intro u1 (And.intro u2 (And.intro u3 (And.intro u4 (And.intro u5 u6))))))));have FH : Hid (Frm (fun k => k = wh.heap.size) wh wh) := Hd (Frm.refl _ _)
   have nb8 : ¬ F' bx := fun hx => by
    rcases t3 _ hx with h1 | h1
    ·have := HL.out _ h1; have := BXL.out; have := HPS.out.fr.size; omega
    ·have := BXR.out; omega
   have NB8 := Hd nb8;have HBX8 := Hd ((t2.block bx BXR.out (fun hx => by have := HL.out _ hx; have := BXL.out; have := HPS.out.fr.size; omega)).trans HBX.out);clear HBX nb8;have HBX := HBX8;clear HBX8;have FE : Hid (Frm (fun k => k = bx) wh wh) := Hd (Frm.refl _ _);obtain ⟨a0, a1, a2, f0, f1, f2⟩ := gr_cells HBX.out;clear t1 t2 t3 u1 u2 u3 u4 u5 u6 FH;refine Hu 9 36 hS ?_;simp only [SL];refine Hu 10 46 hS ?_;simp only [SL];refine Hu 11 47 hS ?_;simp only [SL];refine Hs 13 (fun K HK => ?_);go_simp;refine HK.out _ _ ?_ ?_
   ·exact put3_frm hS _ _ _ _ (.inr BXL.out)
   clear HK K;try simp only [Act.put, SL]
   have hS9 := put3_frm hS bx g1 g2 g3 (.inr BXL.out);clear hS;unfold put3 at hS9;have hS := hS9;clear hS9 a0 a1 a2 f0 f1 f2;refine Hu 14 11 hS ?_;simp only [SL];refine wpAnyH_done (by kernel_rfl) ?_ _;have g8 := GR8.out
   exact REST.out _ _ _ _ _ _ _ _ _ _ _ _ _ _ _ _ _ _ _ _ _ _ _ _ _ _ _ _ _ _ _ _ _ _ _ _ _ _ _ _ _ _ _ _ _ _ _ _ _ _ _ _ (putJ_start HPS.out HBK.out g8.1 g8.2.1 g8.2.2.1 NB8.out BXL.out (put3_frm FE.out bx g1 g2 g3 (.inl rfl)) (put3_block HBX.out) g8.2.2.2.1 g8.2.2.2.2.1 ⟨g8.2.2.2.2.2.2.2.1, g8.2.2.2.2.2.2.2.2⟩ g8.2.2.2.2.2.1 (fun k hk => g8.2.2.2.2.2.2.1 (k + 2 * fs.length + 1) (by rw [HFL.out]; exact hk.le (by omega))))
 ·go_simp
  refine HK.out _ _ ?_ ?_
  ·exact hS.alloc _
  clear HK K;try simp only [Act.put, SL]
  have hsz0 := hS.size;have hS9 : Frm F w4 (w4.alloc (.cells #[.int .i64 0, .int .i64 0, .int .u64 0] 211)).drew := hS.alloc (.cells #[.int .i64 0, .int .i64 0, .int .u64 0] 211);clear hS;obtain ⟨wa, hwa⟩ : ∃ wa, (w4.alloc (.cells #[.int .i64 0, .int .i64 0, .int .u64 0] 211)).drew = wa := ⟨_, rfl⟩
  obtain ⟨bx, hbx⟩ : ∃ bx, w4.heap.size = bx := ⟨_, rfl⟩
  have HBX : Hid (wa.heap[bx]? = some (grO 0 0 0)) := Hd (by rw [← hwa, ← hbx]; exact heap_alloc_new w4 _);have BXL : Hid (w4.heap.size ≤ bx) := Hd (by rw [← hbx]; exact Nat.le_refl _);have BXR : Hid (bx < wa.heap.size) := Hd (by rw [← hwa, ← hbx]; show w4.heap.size < (w4.alloc _).heap.size; simp);have HBK9 : Hid (Below w4.heap.size w4 wa) := Hd (by rw [← hwa]; exact ((Below.refl _ w4).alloc (Nat.le_refl _) _).drew);clear HBK;have HBK := HBK9;clear HBK9;rw [hwa] at hS9;rw [hwa, hbx];have hS := hS9;clear hS9 hwa hbx;refine Hs 7 (fun K HK => ?_);go_simp;go_wp2_with fail
  refine (PT.out _ hS).mono ?_;rintro e wp ⟨⟨bk, bv, bc, dk0, dv, dc, rfl, hR, q1, q2, q3⟩, b7⟩;simp only [nodV];refine HK.out _ _ ?_ ?_
  ·exact hS.trans (G := fun _ => False) (Frm.of_below b7) (fun _ hx => hx.elim)
  clear HK K;try simp only [Act.put, SL]
  have hS9 := hS.trans (G := fun _ => False) (Frm.of_below b7) (fun _ hx => hx.elim);clear hS;have hS := hS9;clear hS9;have HBK7 := Hd (HBK.out.trans (b7.mono HBK.out.size));have HR7 := Hd hR;have Q7 : Hid ((∀ y, bk = some y → w4.heap.size ≤ y.block) ∧ (∀ y, bv = some y → w4.heap.size ≤ y.block) ∧ ∀ y, bc = some y → w4.heap.size ≤ y.block) := Hd ⟨fun y hy => Nat.le_trans HBK.out.size (q1 y hy), fun y hy => Nat.le_trans HBK.out.size (q2 y hy), fun y hy => Nat.le_trans HBK.out.size (q3 y hy)⟩;have HBX7 := Hd (kept HBX.out b7);clear HBX;have HBX := HBX7;clear HBX7
  have BXR7 : Hid (bx < wp.heap.size) := Hd (Nat.lt_of_lt_of_le BXR.out b7.size);clear BXR;have BXR := BXR7;clear BXR7;clear HBK;have HBK := HBK7;clear HBK7 hR q1 q2 q3 b7;refine Hs 8 (fun K HK => ?_);go_simp;go_wp2_with fail;refine (GW.out _ bk bv bc dk0 dv dc HBK.out HR7.out ⟨Q7.out.1, Q7.out.2.1, Q7.out.2.2⟩).mono ?_;rintro e wh ⟨g1, g2, g3, KM, QM, dk', st', rfl, ⟨F', t1, t2, t3⟩, u1, u2, u3, u4, u5, u6⟩;refine HK.out _ _ ?_ ?_
  ·exact hS.trans t2 (fun k hk => .inl hk)
  clear HK K;try simp only [Act.put, SL]
  have hS9 := hS.trans t2 (fun k hk => .inl hk);clear hS;have hS := hS9;clear hS9;have GR8 := Hd (And.intro t1 (And.intro t2 (And.intro t3 (And.intro u1 (And.intro u2 (And.intro u3 (And.intro u4 (And.intro u5 u6))))))));have FH : Hid (Frm (fun k => k = wh.heap.size) wh wh) := Hd (Frm.refl _ _)
  have nb8 : ¬ F' bx := fun hx => by
   rcases t3 _ hx with h1 | h1
   ·have := HL.out _ h1; have := BXL.out; have := HPS.out.fr.size; omega
   ·have := BXR.out; omega
  have NB8 := Hd nb8;have HBX8 := Hd ((t2.block bx BXR.out (fun hx => by have := HL.out _ hx; have := BXL.out; have := HPS.out.fr.size; omega)).trans HBX.out);clear HBX nb8;have HBX := HBX8;clear HBX8;have FE : Hid (Frm (fun k => k = bx) wh wh) := Hd (Frm.refl _ _);obtain ⟨a0, a1, a2, f0, f1, f2⟩ := gr_cells HBX.out;clear t1 t2 t3 u1 u2 u3 u4 u5 u6 FH;refine Hu 9 36 hS ?_;simp only [SL];refine Hu 10 46 hS ?_;simp only [SL];refine Hu 11 47 hS ?_;simp only [SL];refine Hs 13 (fun K HK => ?_);go_simp;refine HK.out _ _ ?_ ?_
  ·exact put3_frm hS _ _ _ _ (.inr BXL.out)
  clear HK K;try simp only [Act.put, SL]
  have hS9 := put3_frm hS bx g1 g2 g3 (.inr BXL.out);clear hS;unfold put3 at hS9;have hS := hS9;clear hS9 a0 a1 a2 f0 f1 f2;refine Hu 14 11 hS ?_;simp only [SL];refine wpAnyH_done (by kernel_rfl) ?_ _;have g8 := GR8.out
  exact REST.out _ _ _ _ _ _ _ _ _ _ _ _ _ _ _ _ _ _ _ _ _ _ _ _ _ _ _ _ _ _ _ _ _ _ _ _ _ _ _ _ _ _ _ _ _ _ _ _ _ _ _ _ (putJ_start HPS.out HBK.out g8.1 g8.2.1 g8.2.2.1 NB8.out BXL.out (put3_frm FE.out bx g1 g2 g3 (.inl rfl)) (put3_block HBX.out) g8.2.2.2.1 g8.2.2.2.2.1 ⟨g8.2.2.2.2.2.2.2.1, g8.2.2.2.2.2.2.2.2⟩ g8.2.2.2.2.2.1 (fun k hk => g8.2.2.2.2.2.2.1 (k + 2 * fs.length + 1) (by rw [HFL.out]; exact hk.le (by omega))))
def SD (w : World) (d s : Nat) (dk : DkS) (st : ShS) (F : Nat → Prop) : Prop := ∃ FD FS, DS w d s dk st FD FS ∧ ∀ k, F k ↔ FD k ∨ FS k
def SDPost (w : World) (d s : Nat) (dk : DkS) (st : ShS) (F : Nat → Prop) (w' : World) : Prop := ∃ F', SD w' d s dk st F' ∧ Frm F w w' ∧ ∀ k, F' k → F k ∨ w.heap.size ≤ k
theorem SD.lt {w : World} {d s : Nat} {dk : DkS} {st : ShS} {F : Nat → Prop} (h : SD w d s dk st F) (k : Nat) (hk : F k) : k < w.heap.size := by
 obtain ⟨FD, FS, hd, he⟩ := h
 rcases (he k).1 hk with h1 | h1
 ·obtain ⟨a, b, c, h2, h3⟩ := hd.dk
  exact h2.lt k ((h3 k).1 h1)
 ·exact hd.sto.lt k h1
theorem SD.frm {w w' : World} {d s : Nat} {dk : DkS} {st : ShS} {F G : Nat → Prop} (h : SD w d s dk st F) (hf : Frm G w w') (hd : ∀ k, F k → ¬ G k) : SD w' d s dk st F := by
 obtain ⟨FD, FS, hi, he⟩ := h;exact ⟨FD, FS, ⟨hi.dk.frm hf fun k hk => hd k ((he k).2 (.inl hk)), hi.sto.frm hf fun k hk => hd k ((he k).2 (.inr hk)), hi.apart⟩, he⟩
theorem SD.below {w w' : World} {d s : Nat} {dk : DkS} {st : ShS} {F : Nat → Prop} (h : SD w d s dk st F) (hb : Below w.heap.size w w') : SD w' d s dk st F := h.frm (G := fun _ => False) (Frm.of_below hb) fun _ _ hx => hx
theorem SD.visit {w : World} {d s : Nat} {dk : DkS} {st : ShS} {F : Nat → Prop} (h : SD w d s dk st F) : TS (w.alloc (visO s 0)) d s w.heap.size dk st 0 (fun k => F k ∨ k = w.heap.size) := by
 have hl := h.lt;obtain ⟨FD, FS, hi, he⟩ := h.below ((Below.refl _ w).alloc (Nat.le_refl _) (visO s 0));refine ⟨FD, FS, ⟨hi, heap_alloc_new w _, fun hk => ?_, fun hk => ?_⟩, fun k => ?_⟩
 ·have := hl _ ((he _).2 (.inl hk)); omega
 ·have := hl _ ((he _).2 (.inr hk)); omega
 ·show (F k ∨ k = w.heap.size) ↔ _
  rw [he, or_assoc]
theorem TSPost.ends {w w' : World} {d s r : Nat} {dk dk' : DkS} {st st' : ShS} {F : Nat → Prop} (hp : TSPost (w.alloc (visO s 0)) d s w.heap.size dk' st' r (fun k => F k ∨ k = w.heap.size) w') : SDPost w d s dk' st' F w' := by
 obtain ⟨F', ⟨FD, FS, hi, he⟩, h2, h3⟩ := hp;have hz : (w.alloc (visO s 0)).heap.size = w.heap.size + 1 := by simp
 refine ⟨fun k => FD k ∨ FS k, ⟨FD, FS, hi.ds, fun _ => Iff.rfl⟩, ?_, fun k hk => ?_⟩
 ·exact ((Frm.refl F w).alloc (visO s 0)).trans h2 (fun k hk => hk.imp id (fun e => by omega))
 ·have hk' : F' k := (he k).2 (hk.elim .inl fun h => .inr (.inl h))
  rcases h3 k hk' with (h1 | h1) | h1
  ·exact .inl h1
  ·exact .inr (by omega)
  ·exact .inr (by omega)
theorem two_filters {α : Type} (p q : α → Bool) (h : ∀ x, p x = true → q x = false) (m : List α) : (m.filter p).length + (m.filter q).length ≤ m.length := by
 induction m with
 | nil => simp
 | cons a m ih =>
  rw [List.filter_cons, List.filter_cons, List.length_cons]
  cases hp : p a with
  | true =>
   rw [if_pos rfl, h a hp, if_neg (by decide), List.length_cons]; omega
  | false =>
   rw [if_neg (by decide)]
   split
   ·rw [List.length_cons]; omega
   ·omega
theorem insE_len (k : Int) (v : ByteArray) (m : List Ent) : (insE k v m).length ≤ m.length + 1 := by
 unfold insE;rw [List.length_append, List.length_cons];have := two_filters (fun e : Ent => decide (e.1 < k)) (fun e => decide (k < e.1)) (fun x hx => decide_eq_false (by have := of_decide_eq_true hx; omega)) m;exact Nat.succ_le_succ this
theorem subset_len : ∀ (L M : List Int), L.Nodup → (∀ x ∈ L, x ∈ M) → L.length ≤ M.length := by
 intro L
 induction L with
 | nil => intro M _ _; simp
 | cons a L ih =>
  intro M hn hs;obtain ⟨h1, h2⟩ := List.nodup_cons.1 hn;have ha := hs a (by simp);have := ih (M.erase a) h2 (fun x hx => (List.mem_erase_of_ne (fun (e : x = a) => h1 (e ▸ hx))).2 (hs x (by simp [hx])));rw [List.length_erase_of_mem ha] at this;have hM : 0 < M.length := List.length_pos_of_mem ha;rw [List.length_cons]; omega
theorem TreeI.room {dk : DkS} {st : ShS} {root : Int} {E : List Ent} (h : TreeI dk st root E) (g : Good dk st) (k : Nat) (hu : usedN st dk.S.length + 2 * E.length + 2 + k ≤ dk.S.length) : Room dk st k := by
 have key : ∀ P, LiveL st P → P.length ≤ 2 * E.length → Room dk st k := by
  intro P hl hp;have := subset_len st.fresh P g.fn (fun x hx => (hl.2 x).2 (.inl hx));unfold Room; omega
 rcases h with ⟨_, rfl, hl⟩ | ⟨hh, F, P, ht, hs, rfl, hl⟩
 ·exact key [] hl (by simp)
 ·exact key P hl (by have := (IsT_count ht).1; omega)
theorem TreeI.root0 {dk : DkS} {st : ShS} {root : Int} {E : List Ent} (h : TreeI dk st root E) (h0 : root = 0) : E = [] ∧ LiveL st [] := by
 rcases h with ⟨_, h1, h2⟩ | ⟨hh, F, P, ⟨M, PM, m1, _⟩, _⟩
 ·exact ⟨h1, h2⟩
 ·have := (Rn_read m1).1; omega
theorem TreeI.rootN {dk : DkS} {st : ShS} {root : Int} {E : List Ent} (h : TreeI dk st root E) (h0 : root ≠ 0) (hE : E.length ≤ 600) : ∃ hh F P, IsT (Rn dk) hh root F P ∧ SortM F ∧ entsM F = E ∧ LiveL st P ∧ hh ≤ 9 := by
 rcases h with ⟨h1, _⟩ | ⟨hh, F, P, ht, hs, he, hl⟩
 ·exact absurd h1 h0
 ·refine ⟨hh, F, P, ht, hs, he, hl, ?_⟩
  have := (IsT_count ht).2;rw [he] at this;apply Decidable.byContradiction;intro hx;have h10 : 2 ^ 10 ≤ 2 ^ hh := Nat.pow_le_pow_right (by decide) (by omega);omega
def PutR (w : World) (d s : Nat) (dk : DkS) (st : ShS) (F : Nat → Prop) (E : List Ent) (e : Ending) (w' : World) : Prop :=
 ∃ q dk' st', e = .returned (.tuple #[.int .i64 q, .int .i64 0]) ∧ SDPost w d s dk' st' F w' ∧ TreeI dk' st' q E ∧ To dk st dk' st'


section
variable {dk : DkS} {st : ShS} {fs : List Frame} {h : Nat} {pg k pl pr : Int} {KA KB : List Int} {A B : List Kid} {NL NR : Nod} {E : List Ent}
end
def XB (x : StepV) (k : Nat) : Prop := (∃ y, x.ak = some y ∧ y.block = k) ∨ ∃ y, x.ac = some y ∧ y.block = k



def ReadT (dk : DkS) (root : Int) (E : List Ent) : Prop := (root = 0 ∧ E = []) ∨ ∃ h F P, IsT (Rn dk) h root F P ∧ SortM F ∧ entsM F = E
theorem TreeI.reads {dk : DkS} {st : ShS} {root : Int} {E : List Ent} (h : TreeI dk st root E) : ReadT dk root E := by
 rcases h with ⟨h1, h2, _⟩ | ⟨hh, F, P, ht, hs, he, _⟩
 ·exact .inl ⟨h1, h2⟩
 ·exact .inr ⟨hh, F, P, ht, hs, he⟩
theorem IsT.low {dk : DkS} {h : Nat} {root : Int} {F : List Mk} {P : List Int} (ht : IsT (Rn dk) h root F P) (hE : (entsM F).length ≤ 600) : h ≤ 9 := by
 have := (IsT_count ht).2;apply Decidable.byContradiction;intro hx;have h10 : 2 ^ 10 ≤ 2 ^ h := Nat.pow_le_pow_right (by decide) (by omega);omega
def getV (key : Int) (E : List Ent) : ByteArray := match getE key E with | some v => v | none => ⟨#[]⟩
def getB (key : Int) (E : List Ent) : Bool := (getE key E).isSome
theorem get_leaf {dk : DkS} {M : Nod} {FL FR Fh : List Mk} {key : Int} {i : Nat} {fd : Bool} (ht : NodT (Rn dk) 0 M Fh []) (hs : SortM (FL ++ Fh ++ FR)) (hL : ∀ m ∈ FL, ordM m < 2 * key + 1) (hR : ∀ m ∈ FR, 2 * key + 1 < ordM m) (hf : findN M key = (i, fd)) :
  (fd = true ∧ ∃ v, M.V[i]? = some v ∧ getE key (entsM (FL ++ Fh ++ FR)) = some v) ∨ (fd = false ∧ getE key (entsM (FL ++ Fh ++ FR)) = none) := by
 obtain ⟨s1, s2, s3⟩ := SortM_append.1 hs;obtain ⟨j, X, Y, hX, hY, hh⟩ := leaf_place ht (SortM_append.1 s1).2.1 key
 have side : ∀ (Z : List Mk), (∀ m ∈ Z, ordM m ≠ 2 * key + 1) → ∀ e ∈ entsM Z, e.1 ≠ key := by
  intro Z hZ e he;obtain ⟨m, hm, hme⟩ := List.mem_filterMap.1 he;have := hZ m hm;obtain ⟨a, b⟩ := m
  cases b with
  | none => simp [entM] at hme
  | some b => simp [entM] at hme; subst hme; rw [ord_ent] at this; show a ≠ key; omega
 have small : ∀ e ∈ entsM (FL ++ X), e.1 < key := by
  intro e he;obtain ⟨m, hm, hme⟩ := List.mem_filterMap.1 he;have : ordM m < 2 * key + 1 := (List.mem_append.1 hm).elim (hL m) (hX m);obtain ⟨a, b⟩ := m
  cases b with
  | none => simp [entM] at hme
  | some b => simp [entM] at hme; subst hme; rw [ord_ent] at this; show a < key; omega
 rcases hh with ⟨old, e0, e00, ev, e1, _⟩ | ⟨e0, e1, _⟩
 ·rw [hf] at e0
  injection e0 with e0 e2;subst e0 e2;refine .inl ⟨rfl, old, ev, ?_⟩;have : entsM (FL ++ Fh ++ FR) = entsM (FL ++ X) ++ (key, old) :: entsM (Y ++ FR) := by rw [e1]; simp [entsM_append, entsM_ent]
  rw [this];exact getE_old _ _ _ _ small
 ·rw [hf] at e0
  injection e0 with e0 e2;subst e0 e2;refine .inr ⟨rfl, getE_none _ _ (side _ (fun m hm => ?_))⟩;rw [e1] at hm;simp only [List.mem_append] at hm
  rcases hm with (hm | hm | hm) | hm
  ·have := hL m hm; omega
  ·have := hX m hm; omega
  ·have := hY m hm; omega
  ·have := hR m hm; omega
theorem tget_is (w : World) (d s : Nat) (dk : DkS) (st : ShS) (F : Nat → Prop) (h : SD w d s dk st F) (G : Good dk st) (root : Int) (E : List Ent) (ht : ReadT dk root E) (hE : E.length ≤ 600) (key : Int) (hk : 0 ≤ key ∧ key ≤ 18446744073709551615) :
  Calls Tryz.prog 96 #[.pointer (some ⟨s, 0, none⟩), .int .i64 root, .int .u64 key] w fun e w' => e = .returned (.tuple #[.string (getV key E), .bool (getB key E), .int .i64 0]) ∧ Below w.heap.size w w' := by
 rcases ht with ⟨rfl, rfl⟩ | ⟨hh, F0, P0, hi, hs, rfl⟩
 ·clear h G
  have e1 : getV key [] = ⟨#[]⟩ := rfl;have e2 : getB key [] = false := rfl;rw [e1, e2];go_enter Tryz.func96, Tryz.ntmps96;go_wp2_with fail;go_ret3;exact ⟨rfl, Br⟩
 ·have h9 := hi.low hE
  have h0 : root ≠ 0 := by
   obtain ⟨M, PM, m1, _⟩ := hi;have := (Rn_read m1).1; omega
  have h0' : (root == 0) = false := by rw [beq_eq_false_iff_ne]; exact h0
  have DN := Hd (down_is (w.alloc (visO s 0)) d s w.heap.size dk st 0 _ h.visit G root hh F0 P0 hi hs h9 (by omega) key hk);have HS := Hd hs;unfold visO at DN;clear h G hi hs h9 h0 hk;go_enter Tryz.func96, Tryz.ntmps96;go_wp2_with fail;refine DN.out.mono ?_;rintro e w1 ⟨v, fs, xs, x, M, i, fd, FL, FR, Fh, PC, hi, rfl, hD⟩;obtain ⟨va, vc, rfl, _, _⟩ := own_shape7 hD.own;obtain ⟨vn, hvn⟩ : ∃ vn, (xs.reverse ++ [x]).length = vn := ⟨_, rfl⟩
  have W2 : Way (w1.alloc (.cells #[.slice va (xs.reverse ++ [x]).length vc] 177)) w1.heap.size (xs.reverse ++ [x]) (WF w1.heap.size (.slice va (xs.reverse ++ [x]).length vc)) :=
   ⟨_, ⟨heap_alloc_new w1 _, own_frmZ (F := fun _ => False) hD.own ((Frm.refl _ w1).alloc _) (fun _ _ hx => hx), fun e => by have := (hD.own.lt _ e).2; omega⟩, fun _ => Iff.rfl⟩
  have PO := Hd (way_pop _ w1.heap.size xs.reverse x _ W2);have s01 : w.heap.size + 1 ≤ w1.heap.size := by have := hD.fr.size; rw [World.size_alloc] at this; exact this
  have gl := get_leaf hD.nt (by rw [hD.eF]; exact HS.out) hD.bL hD.bR hD.fn;rw [hD.eF] at gl;have HD := Hd hD;have xf := hD.xf;have xi := hD.xi;have HB1 : Hid (Below w.heap.size w w1) := Hd (((Frm.refl (fun k => k = w.heap.size) w).alloc _).trans hD.fr (fun k hk => .inl hk) |>.below (fun k hk => by omega) (Nat.le_refl _));rw [hvn] at PO HD ⊢;clear hD W2 hvn;go_wp2_with fail;refine PO.out.mono ?_;rintro e w3 ⟨rfl, hw3, hf3⟩;unfold StepV.val
  have HB3 : Hid (Below w.heap.size w w3) := Hd ((HB1.out.alloc (by omega) _).trans (hf3.below (fun k hk => by subst hk; omega) (by rw [World.size_alloc]; omega)));have B4 := HB3.out.alloc HB3.out.size (.cells #[.int .i64 x.p, .int .i64 x.i, .bool x.fd, .bool x.lf, .slice x.ak x.lk x.ck, .slice x.av x.lv x.cv, .slice x.ac x.lc x.cc] 183);have FIN := Hd B4;have f13 : Frm (fun k => k = w1.heap.size) w1 w3 := ((Frm.refl _ w1).alloc _).trans hf3 (fun k hk => .inl hk)
  have SA : StepA w3 x M (fun k => k = w1.heap.size) := (HD.out.lf.grow (Z' := fun k => k = w1.heap.size) (fun k hk => .inr (by omega))).frm f13 (fun k hk => hk)
  rcases gl with ⟨rfl, val, hv, hg⟩ | ⟨rfl, hg⟩
  ·have e1 : getV key (entsM F0) = val := by unfold getV; rw [hg]
   have e2 : getB key (entsM F0) = true := by unfold getB; rw [hg]; rfl
   have E12 := Hd (And.intro e1 e2);obtain ⟨hvl, hvi⟩ := List.getElem?_eq_some_iff.1 hv;obtain ⟨cb, off, a1, a2, a3⟩ := SA.a.r.v.at i (by simpa using hvl);have a4 : w3.cell? ⟨cb, off + i, none⟩ = some (.string val) := by rw [a3]; simp [hvi]
   have hil : (i : Int) < (x.lv : Int) := by rw [SA.lv]; omega
   obtain ⟨w4, hw4⟩ : ∃ w4, w3.alloc (.cells #[.int .i64 x.p, .int .i64 x.i, .bool x.fd, .bool x.lf, .slice x.ak x.lk x.ck, .slice x.av x.lv x.cv, .slice x.ac x.lc x.cc] 183) = w4 := ⟨_, rfl⟩
   have b4 : Below w3.heap.size w3 w4 := by rw [← hw4]; exact (Below.refl _ w3).alloc (Nat.le_refl _) _
   have X4 : w4.heap[w3.heap.size]? = some (.cells #[.int .i64 x.p, .int .i64 x.i, .bool x.fd, .bool x.lf, .slice x.ak x.lk x.ck, .slice x.av x.lv x.cv, .slice x.ac x.lc x.cc] 183) := by rw [← hw4]; exact heap_alloc_new w3 _
   have a5 := (b4.cell (p := ⟨cb, off + i, none⟩) a2).trans a4;rw [xi, xf, a1] at X4;obtain ⟨d0, d1, d2, d3, d4, d5, d6⟩ := cells7 X4;rw [hw4] at FIN;have HXI := Hd (And.intro xi (And.intro xf a1));have FIN2 : Hid (Ending.returned (.tuple #[.string val, .bool true, .int .i64 0]) = Ending.returned (.tuple #[.string (getV key (entsM F0)), .bool (getB key (entsM F0)), .int .i64 0]) ∧ Below w.heap.size w w4) := Hd ⟨by rw [e1, e2], FIN.out⟩;clear SA X4 b4 a4 a3 a2 hv hvl hvi hg e1 e2 hf3 f13 B4 hw3 HB3 HB1 s01 xi xf a1;go_upto_region 8 with fail
   try rw [hw4]
   clear hw4;go_wp2_with fail;go_ret3;exact FIN2.out
  ·have e1 : getV key (entsM F0) = ⟨#[]⟩ := by unfold getV; rw [hg]
   have e2 : getB key (entsM F0) = false := by unfold getB; rw [hg]; rfl
   have E12 := Hd (And.intro e1 e2);obtain ⟨w4, hw4⟩ : ∃ w4, w3.alloc (.cells #[.int .i64 x.p, .int .i64 x.i, .bool x.fd, .bool x.lf, .slice x.ak x.lk x.ck, .slice x.av x.lv x.cv, .slice x.ac x.lc x.cc] 183) = w4 := ⟨_, rfl⟩
   have X4 : w4.heap[w3.heap.size]? = some (.cells #[.int .i64 x.p, .int .i64 x.i, .bool x.fd, .bool x.lf, .slice x.ak x.lk x.ck, .slice x.av x.lv x.cv, .slice x.ac x.lc x.cc] 183) := by rw [← hw4]; exact heap_alloc_new w3 _
   rw [xf] at X4;obtain ⟨d0, d1, d2, d3, d4, d5, d6⟩ := cells7 X4;rw [hw4] at FIN;have FIN2 : Hid (Ending.returned (.tuple #[.string ⟨#[]⟩, .bool false, .int .i64 0]) = Ending.returned (.tuple #[.string (getV key (entsM F0)), .bool (getB key (entsM F0)), .int .i64 0]) ∧ Below w.heap.size w w4) := Hd ⟨by rw [e1, e2], FIN.out⟩;clear SA X4 hg e1 e2 hf3 f13 B4 hw3 HB3 HB1 s01 xi xf;go_upto_region 8 with fail
   try rw [hw4]
   clear hw4;go_wp2_with fail;go_ret3;exact FIN2.out
section
variable {w wr w2 w3 : World} {d s g : Nat} {dk dk' : DkS} {st st' : ShS} {F F' FW : Nat → Prop} {E : List Ent} {bw bs m hh r' hi : Nat} {f : Frame} {fs : List Frame} {x : StepV} {xs : List StepV} {p i : Int} {fd : Bool} {N : Nod} {ak av ac : Option Addr} {ck cv cc : Nat}
end

theorem zeros_none (k : Nat) (i : Int) : hasB (Str (List.replicate k 0)) i = false := by
 unfold hasB bitL;rw [Str_list]
 split
 ·rw [List.getElem_replicate]
  simp
 ·simp
theorem fmt_used (x : Int) : hasB fmtH.used x = false := zeros_none 80 x
theorem fmt_good (dk : DkS) (hu : dk.up = true) (hf : dk.fuse = -1) (h8 : 8 ≤ dk.S.length) (h6 : dk.S.length ≤ 640) :
  (wrHead dk fmtH).2 = 0 ∧ Good (wrHead dk fmtH).1 (ShS.new fmtH) ∧ TreeI (wrHead dk fmtH).1 (ShS.new fmtH) 0 [] ∧ (wrHead dk fmtH).1.S.length = dk.S.length := by
 obtain ⟨e1, e2⟩ := wrHead_ok dk fmtH hu (by omega) h8 (by decide +kernel) (by decide)
 have hl : (wrHead dk fmtH).1.S.length = dk.S.length := by
  rw [e2]; unfold DkS.wrote DkS.loosened; dsimp only; split <;> simp
 refine ⟨e1, ⟨?_, ?_, by rw [hl]; exact h6, by rw [hl]; exact h8, rfl, fun x hx => (by cases hx), List.nodup_nil, fun x hx => ?_, fun x hx => (by cases hx)⟩, .inl ⟨rfl, rfl, List.nodup_nil, fun x => ⟨fun hx => (by cases hx), fun hx => ?_⟩⟩, hl⟩
 ·rw [e2]; unfold DkS.wrote DkS.loosened; dsimp only; split <;> exact hu
 ·rw [e2]; unfold DkS.wrote DkS.loosened; dsimp only; rw [hf]; split <;> rfl
 ·rw [show (ShS.new fmtH).h.used = fmtH.used from rfl, fmt_used] at hx; cases hx
 ·rcases hx with hx | hx
  ·cases hx
  ·have := hx.1
   rw [show (ShS.new fmtH).h.used = fmtH.used from rfl, fmt_used] at this; cases this

theorem used_none (st : ShS) (h : st.h = fmtH) (size k : Nat) : usedL st size k = 0 := by
 induction k with
 | zero => rfl
 | succ k ih => unfold usedL; rw [ih, h]; simp [fmt_used]
end Go.Proofs.YthcejfnngkmojaaGreatDoor
namespace Go.Proofs.YthcejfnngkmojaaGreatDoor
set_option maxRecDepth 20000
set_option maxHeartbeats 12800000
set_option linter.unusedVariables false
set_option linter.unusedSimpArgs false
theorem find_filter (k : Int) (q : Int → Bool) (E : List Ent) : ((E.filter fun e => q e.1).find? fun e => decide (e.1 = k)) = if q k = true then E.find? (fun e => decide (e.1 = k)) else none := by
 induction E with
 | nil => simp
 | cons e E ih =>
  rw [List.filter_cons]
  by_cases hq : q e.1 = true
  ·rw [if_pos hq, List.find?_cons, List.find?_cons, ih]
   by_cases he : e.1 = k
   ·have hk : q k = true := he ▸ hq
    simp only [he, hk, decide_true, if_true]
   ·simp only [he, decide_false]
  ·rw [if_neg hq, List.find?_cons, ih]
   by_cases he : e.1 = k
   ·have hk : ¬ q k = true := he ▸ hq
    rw [if_neg hk, if_neg hk]
   ·simp only [he, decide_false]
theorem getE_ins (k : Int) (v : ByteArray) (E : List Ent) (x : Int) : getE x (insE k v E) = if x = k then some v else getE x E := by
 unfold getE insE;rw [List.find?_append];have h1 := find_filter x (fun y => decide (y < k)) E;have h2 := find_filter x (fun y => decide (k < y)) E;rw [h1, List.find?_cons]
 by_cases hx : x = k
 ·subst hx
  simp
 ·rw [show decide (k = x) = false from decide_eq_false (Ne.symm hx)]
  dsimp only
  rw [h2, if_neg hx]
  by_cases h : x < k
  ·rw [if_pos (decide_eq_true h), if_neg (by simp; omega)]
   simp
  ·rw [if_neg (by simpa using h), if_pos (decide_eq_true (by omega))]
   simp
end Go.Proofs.YthcejfnngkmojaaGreatDoor
namespace Go.Proofs.YthcejfnngkmojaaGreatDoor
open Go.RowKit
set_option maxRecDepth 20000
set_option maxHeartbeats 12800000
set_option linter.unusedVariables false
set_option linter.unusedSimpArgs false
theorem IsT.lowN {dk : DkS} {h H0 : Nat} {root : Int} {F : List Mk} {P : List Int} (ht : IsT (Rn dk) h root F P) (hE : (entsM F).length < 2 ^ (H0 + 1)) : h ≤ H0 := by
 have := (IsT_count ht).2;apply Decidable.byContradiction;intro hx;have h10 : 2 ^ (H0 + 1) ≤ 2 ^ h := Nat.pow_le_pow_right (by decide) (by omega);omega
theorem tput_gen (w : World) (d s : Nat) (dk : DkS) (st : ShS) (F : Nat → Prop) (h : SD w d s dk st F) (G : Good dk st) (root : Int) (E : List Ent) (ht : TreeI dk st root E) (H0 : Nat) (h9 : H0 ≤ 8) (hE : E.length < 2 ^ (H0 + 1)) (hroom : Room dk st (2 * H0 + 3)) (key : Int) (hk : 0 ≤ key ∧ key ≤ 18446744073709551615) (val : ByteArray) (hv : val.size ≤ 40) :
  Calls Tryz.prog 93 #[.pointer (some ⟨s, 0, none⟩), .int .i64 root, .int .u64 key, .string val] w (PutR w d s dk st F (insE key val E)) := by
 have VP : Hid (Calls Tryz.prog 120 #[.pointer (some ⟨w.heap.size, 0, none⟩), .int .i64 root, .int .u64 key, .string val] (w.alloc (visO s 0)) fun e w' => ∃ q, e = .returned (.tuple #[.int .i64 q, .int .i64 0]) ∧ PutR w d s dk st F (insE key val E) (.returned (.tuple #[.int .i64 q, .int .i64 0])) w') := Hd (by
  by_cases h0 : root = 0
  ·obtain ⟨rfl, hl⟩ := ht.root0 h0
   subst h0;refine (vput_nil (w.alloc (visO s 0)) d s w.heap.size dk st 0 _ h.visit G (hroom.le (by omega)) hl key hk val hv).mono ?_;rintro e w' ⟨q, dk', st', r', rfl, hp, hT, hto, _⟩;exact ⟨q, rfl, q, dk', st', rfl, TSPost.ends (dk := dk) (st := st) hp, hT, hto⟩
  ·have hlt : E.length ≤ 600 := by
    have : 2 ^ (H0 + 1) ≤ 2 ^ 9 := Nat.pow_le_pow_right (by decide) (by omega);omega
   obtain ⟨hh, F0, P0, hi, hs, rfl, hl, _⟩ := ht.rootN h0 hlt;have hh0 := hi.lowN hE;refine (vput_some (w.alloc (visO s 0)) d s w.heap.size dk st 0 _ h.visit G root h0 hh F0 P0 hi hs hl (by omega) (by omega) (hroom.le (by omega)) key hk val hv).mono ?_;rintro e w' ⟨q, dk', st', r', rfl, hp, hT, hto, _⟩;exact ⟨q, rfl, q, dk', st', rfl, TSPost.ends (dk := dk) (st := st) hp, hT, hto⟩)
 have hv1 : ¬ (40 : Int) < (val.size : Int) := by omega
 unfold visO at VP;clear h G ht hE hk hv hroom h9;go_enter Tryz.func93, Tryz.ntmps93;go_wp2_with fail;refine VP.out.mono ?_;rintro e w1 ⟨q, rfl, hp⟩;have FIN := Hd hp;clear hp;go_wp2_with fail;go_ret2;exact FIN.out
def TrF (w : World) (d s n : Nat) (root : Int) (E : List Ent) (F : Nat → Prop) : Prop := ∃ dk st, SD w d s dk st F ∧ Good dk st ∧ TreeI dk st root E ∧ dk.S.length = n ∧ st.h = fmtH
def TrR (w0 : World) (R : List Nat) (w : World) (d s n : Nat) (root : Int) (E : List Ent) : Prop :=
 Below w0.heap.size w0 w ∧ ∃ F, TrF w d s n root E F ∧ (∀ k, F k → w0.heap.size ≤ k) ∧ ∀ k ∈ R, k < w.heap.size ∧ ¬ F k
def KeptL (R : List Nat) (w w' : World) : Prop := ∀ k ∈ R, w'.heap[k]? = w.heap[k]?
theorem TrF.frm {w w' : World} {d s n : Nat} {root : Int} {E : List Ent} {F G : Nat → Prop} (h : TrF w d s n root E F) (hf : Frm G w w') (hd : ∀ k, F k → ¬ G k) : TrF w' d s n root E F := by
 obtain ⟨dk, st, h1, h2⟩ := h;exact ⟨dk, st, h1.frm hf hd, h2⟩
theorem TrF.lt {w : World} {d s n : Nat} {root : Int} {E : List Ent} {F : Nat → Prop} (h : TrF w d s n root E F) (k : Nat) (hk : F k) : k < w.heap.size := by
 obtain ⟨dk, st, h1, _⟩ := h;exact h1.lt k hk
theorem TrR.size {w0 : World} {R : List Nat} {w : World} {d s n : Nat} {root : Int} {E : List Ent} (h : TrR w0 R w d s n root E) : Below w0.heap.size w0 w := h.1
theorem TrR.below {w0 : World} {R : List Nat} {w w' : World} {d s n : Nat} {root : Int} {E : List Ent} (h : TrR w0 R w d s n root E) (hb : Below w.heap.size w w') : TrR w0 R w' d s n root E := by
 obtain ⟨h1, F, h2, h3, h4⟩ := h;exact ⟨h1.trans (hb.mono h1.size), F, h2.frm (G := fun _ => False) (Frm.of_below hb) (fun _ _ h => h), h3, fun k hk => ⟨Nat.lt_of_lt_of_le (h4 k hk).1 hb.size, (h4 k hk).2⟩⟩
theorem TrR.kept {w0 : World} {R : List Nat} {w w' : World} {d s n : Nat} {root : Int} {E : List Ent} (h : TrR w0 R w d s n root E) (hb : Below w.heap.size w w') : KeptL R w w' := by
 obtain ⟨h1, F, h2, h3, h4⟩ := h;exact fun k hk => hb.block k (h4 k hk).1
theorem TrR.turn {w0 : World} {R : List Nat} {w w' : World} {d s n : Nat} {root : Int} {E : List Ent} (h : TrR w0 R w d s n root E) {k : Nat} (hk : k ∈ R) (h0 : w0.heap.size ≤ k) (hf : Frm (fun x => x = k) w w') : TrR w0 R w' d s n root E := by
 obtain ⟨h1, F, h2, h3, h4⟩ := h;refine ⟨h1.trans (hf.below (fun i hi => by subst hi; exact h0) h1.size), F, h2.frm hf (fun i hi e => (h4 k hk).2 (e ▸ hi)), h3, fun i hi => ⟨Nat.lt_of_lt_of_le (h4 i hi).1 hf.size, (h4 i hi).2⟩⟩
theorem TrR.more {w0 : World} {R : List Nat} {w w' : World} {d s n : Nat} {root : Int} {E : List Ent} (h : TrR w0 R w d s n root E) (hb : Below w.heap.size w w') (k : Nat) (h1 : w.heap.size ≤ k) (h2 : k < w'.heap.size) : TrR w0 (k :: R) w' d s n root E := by
 obtain ⟨a1, F, a2, a3, a4⟩ := h.below hb;obtain ⟨_, F', b2, b3, b4⟩ := h;refine ⟨a1, F', b2.frm (G := fun _ => False) (Frm.of_below hb) (fun _ _ h => h), b3, fun i hi => ?_⟩
 rcases List.mem_cons.1 hi with rfl | hi
 ·exact ⟨h2, fun hx => by have := b2.lt _ hx; omega⟩
 ·exact ⟨(a4 i hi).1, (b4 i hi).2⟩
theorem TrR.sub {w0 : World} {R R' : List Nat} {w : World} {d s n : Nat} {root : Int} {E : List Ent} (h : TrR w0 R w d s n root E) (hs : ∀ k ∈ R', k ∈ R) : TrR w0 R' w d s n root E := by
 obtain ⟨h1, F, h2, h3, h4⟩ := h;exact ⟨h1, F, h2, h3, fun k hk => h4 k (hs k hk)⟩
theorem TrR.lt {w0 : World} {R : List Nat} {w : World} {d s n : Nat} {root : Int} {E : List Ent} (h : TrR w0 R w d s n root E) (k : Nat) (hk : k ∈ R) : k < w.heap.size := by
 obtain ⟨h1, F, h2, h3, h4⟩ := h;exact (h4 k hk).1
theorem TrR.post {w0 : World} {R : List Nat} {w w' : World} {d s n : Nat} {q : Int} {E : List Ent} {F : Nat → Prop} {dk dk' : DkS} {st st' : ShS} (hb : Below w0.heap.size w0 w) (hF : ∀ k, F k → w0.heap.size ≤ k) (hR : ∀ k ∈ R, k < w.heap.size ∧ ¬ F k) (hp : SDPost w d s dk' st' F w') (hT : TreeI dk' st' q E) (hto : To dk st dk' st') (hn : dk.S.length = n) (hh : st.h = fmtH) : TrR w0 R w' d s n q E ∧ KeptL R w w' := by
 obtain ⟨F', h1, h2, h3⟩ := hp;refine ⟨⟨hb.trans (h2.below hF hb.size), F', ⟨dk', st', h1, hto.g, hT, hto.len.trans hn, hto.h.trans hh⟩, fun k hk => (h3 k hk).elim (hF k) (fun hx => Nat.le_trans hb.size hx), fun k hk => ⟨Nat.lt_of_lt_of_le (hR k hk).1 h2.size, fun hx => ?_⟩⟩, fun k hk => h2.block k (hR k hk).1 (hR k hk).2⟩
 rcases h3 k hx with h4 | h4
 ·exact (hR k hk).2 h4
 ·have := (hR k hk).1; omega
theorem room_R {dk : DkS} {st : ShS} {root : Int} {E : List Ent} (ht : TreeI dk st root E) (G : Good dk st) (hh : st.h = fmtH) (H0 : Nat) (hn : 2 * E.length + 2 * H0 + 5 ≤ dk.S.length) : Room dk st (2 * H0 + 3) := by
 have hu : usedN st dk.S.length = 0 := used_none st hh _ _;exact ht.room G _ (by omega)
theorem put_R {w0 : World} {R : List Nat} {w : World} {d s n : Nat} {root : Int} {E : List Ent} (h : TrR w0 R w d s n root E) (H0 : Nat) (h9 : H0 ≤ 8) (hE : E.length < 2 ^ (H0 + 1)) (hn : 2 * E.length + 2 * H0 + 5 ≤ n) (key : Int) (hk : 0 ≤ key ∧ key ≤ 18446744073709551615) (val : ByteArray) (hv : val.size ≤ 40) :
  Calls Tryz.prog 93 #[.pointer (some ⟨s, 0, none⟩), .int .i64 root, .int .u64 key, .string val] w fun e w' => ∃ q, e = .returned (.tuple #[.int .i64 q, .int .i64 0]) ∧ TrR w0 R w' d s n q (insE key val E) ∧ KeptL R w w' := by
 obtain ⟨hb, F, ⟨dk, st, h1, G, ht, hl, hh⟩, hF, hR⟩ := h;refine (tput_gen w d s dk st F h1 G root E ht H0 h9 hE (room_R ht G hh H0 (by omega)) key hk val hv).mono ?_;rintro e w' ⟨q, dk', st', rfl, hp, hT, hto⟩;exact ⟨q, rfl, TrR.post hb hF hR hp hT hto hl hh⟩
theorem get_R {w0 : World} {R : List Nat} {w : World} {d s n : Nat} {root : Int} {E : List Ent} (h : TrR w0 R w d s n root E) (hE : E.length ≤ 600) (key : Int) (hk : 0 ≤ key ∧ key ≤ 18446744073709551615) :
  Calls Tryz.prog 96 #[.pointer (some ⟨s, 0, none⟩), .int .i64 root, .int .u64 key] w fun e w' => e = .returned (.tuple #[.string (getV key E), .bool (getB key E), .int .i64 0]) ∧ Below w.heap.size w w' := by
 obtain ⟨hb, F, ⟨dk, st, h1, G, ht, hl, hh⟩, hF, hR⟩ := h;exact tget_is w d s dk st F h1 G root E ht.reads hE key hk
end Go.Proofs.YthcejfnngkmojaaGreatDoor
namespace Go.Proofs.YthcejfnngkmojaaGreatDoor
set_option maxRecDepth 20000
set_option maxHeartbeats 12800000
set_option linter.unusedVariables false
set_option linter.unusedSimpArgs false

end Go.Proofs.YthcejfnngkmojaaGreatDoor
namespace Go.Proofs.YthcejfnngkmojaaGreatDoor
open Go Go.RowKit
set_option maxRecDepth 20000
set_option maxHeartbeats 12800000
set_option linter.unusedVariables false
set_option linter.unusedSimpArgs false


end Go.Proofs.YthcejfnngkmojaaGreatDoor
namespace Go.Proofs.YthcejfnngkmojaaGreatDoor
open Go.RowKit
set_option maxRecDepth 20000
set_option maxHeartbeats 12800000
set_option linter.unusedVariables false
set_option linter.unusedSimpArgs false
attribute [local go_sem] Oper.semAt_some
theorem box1 {w : World} {b : Nat} {v : Value} {T : TypeId} (h : w.heap[b]? = some (.cells #[v] T)) : w.cell? ⟨b, 0, none⟩ = some v ∧ w.frozen? ⟨b, 0, none⟩ = false := ⟨cells1 h, ufb h 0⟩
def VP (d s g : Nat) (dk : DkS) (st : ShS) (r : Nat) (F : Nat → Prop) (n : Nat) (W : World) : Prop := ∃ r', r ≤ r' ∧ r' ≤ r + n ∧ TS W d s g dk st r' F
def txC (s : Nat) (root e : Int) (o : Bool) : Obj := .cells #[.pointer (some ⟨s, 0, none⟩), .int .i64 root, .int .i64 e, .bool o] 126
theorem cellsT {w : World} {t s : Nat} {root e : Int} {o : Bool} (h : w.heap[t]? = some (txC s root e o)) : w.cell? ⟨t, 0, none⟩ = some (.pointer (some ⟨s, 0, none⟩)) ∧ w.cell? ⟨t, 1, none⟩ = some (.int .i64 root) ∧ w.cell? ⟨t, 2, none⟩ = some (.int .i64 e) ∧ w.cell? ⟨t, 3, none⟩ = some (.bool o) ∧ ∀ i, w.frozen? ⟨t, i, none⟩ = false := by
 unfold txC at h;refine ⟨?_, ?_, ?_, ?_, fun i => ufb h i⟩ <;> (rw [Go.Joins.cell_of_block h]; rfl)
theorem set_frmT {w : World} {b i : Nat} (v : Value) : Frm (fun k => k = b) w (w.setCell ⟨b, i, none⟩ v) := (Frm.refl _ w).setCell _ _ (.inl rfl)
theorem do_put (w : World) (t s : Nat) (root : Int) (caps : Array Value) (hc : w.heap[t]? = some (txC s root 0 false)) (R : Int → World → Prop)
  (HC : Calls Tryz.prog 92 caps w fun e w' => ∃ c, e = .returned (.int .i64 c) ∧ R c w' ∧ ∃ root', w'.heap[t]? = some (txC s root' 0 false)) :
  Calls Tryz.prog 81 #[.pointer (some ⟨t, 0, none⟩), .func (.func 92) #[] caps] w fun e w' => ∃ c w1, e = .returned (.bool (c == 0)) ∧ R c w1 ∧ w1.setCell ⟨t, 2, none⟩ (.int .i64 c) = w' := by
 have H := Hd HC;obtain ⟨c0, c1, c2, c3, fz⟩ := cellsT hc;clear hc HC fz;go_enter Tryz.func81, Tryz.ntmps81;go_wp2_with fail;refine H.out.mono ?_;rintro e w1 ⟨c, rfl, hR, root', hc1⟩;have FIN := Hd hR;obtain ⟨d0, d1, d2, d3, g⟩ := cellsT hc1;have g2 := g 2;obtain ⟨w2, hw2⟩ : ∃ w2, w1.setCell ⟨t, 2, none⟩ (.int .i64 c) = w2 := ⟨_, rfl⟩
 have e2 : w2.cell? ⟨t, 2, none⟩ = some (.int .i64 c) := by
  unfold txC at hc1;have h9 := heap_setCell_same w1 t 2 _ _ (.int .i64 c) hc1;rw [hw2] at h9;rw [Go.Joins.cell_of_block h9]; rfl
 have HW := Hd hw2;clear hR hc1 g c0 c1 c2 c3 H;go_upto_region 4 with fail
 try rw [hw2]
 clear hw2 d0 d1 d2 d3 g2;go_wp2_with fail;go_ret;exact ⟨c, w1, rfl, FIN.out, HW.out⟩
theorem do_get (w : World) (t s : Nat) (root : Int) (caps : Array Value) (hc : w.heap[t]? = some (txC s root 0 false)) (R : Int → World → Prop)
  (HC : Calls Tryz.prog 95 caps w fun e w' => ∃ c, e = .returned (.int .i64 c) ∧ R c w' ∧ ∃ root', w'.heap[t]? = some (txC s root' 0 false)) :
  Calls Tryz.prog 81 #[.pointer (some ⟨t, 0, none⟩), .func (.func 95) #[] caps] w fun e w' => ∃ c w1, e = .returned (.bool (c == 0)) ∧ R c w1 ∧ w1.setCell ⟨t, 2, none⟩ (.int .i64 c) = w' := by
 have H := Hd HC;obtain ⟨c0, c1, c2, c3, fz⟩ := cellsT hc;clear hc HC fz;go_enter Tryz.func81, Tryz.ntmps81;go_wp2_with fail;refine H.out.mono ?_;rintro e w1 ⟨c, rfl, hR, root', hc1⟩;have FIN := Hd hR;obtain ⟨d0, d1, d2, d3, g⟩ := cellsT hc1;have g2 := g 2;obtain ⟨w2, hw2⟩ : ∃ w2, w1.setCell ⟨t, 2, none⟩ (.int .i64 c) = w2 := ⟨_, rfl⟩
 have e2 : w2.cell? ⟨t, 2, none⟩ = some (.int .i64 c) := by
  unfold txC at hc1;have h9 := heap_setCell_same w1 t 2 _ _ (.int .i64 c) hc1;rw [hw2] at h9;rw [Go.Joins.cell_of_block h9]; rfl
 have HW := Hd hw2;clear hR hc1 g c0 c1 c2 c3 H;go_upto_region 4 with fail
 try rw [hw2]
 clear hw2 d0 d1 d2 d3 g2;go_wp2_with fail;go_ret;exact ⟨c, w1, rfl, FIN.out, HW.out⟩
def PutS (bt bk bv t s : Nat) (root key : Int) (val : ByteArray) (w : World) : Prop := w.heap[bt]? = some (.cells #[.pointer (some ⟨t, 0, none⟩)] 24) ∧ w.heap[bk]? = some (.cells #[.int .u64 key] 35) ∧ w.heap[bv]? = some (.cells #[.string val] 9) ∧ w.heap[t]? = some (txC s root 0 false)
theorem PutS.kept {bt bk bv t s : Nat} {root key : Int} {val : ByteArray} {w w' : World} {R : List Nat} (h : PutS bt bk bv t s root key val w) (hm : bt ∈ R ∧ bk ∈ R ∧ bv ∈ R ∧ t ∈ R) (hK : KeptL R w w') : PutS bt bk bv t s root key val w' :=
 ⟨(hK _ hm.1).trans h.1, (hK _ hm.2.1).trans h.2.1, (hK _ hm.2.2.1).trans h.2.2.1, (hK _ hm.2.2.2).trans h.2.2.2⟩
theorem put1_is {w0 w : World} {R : List Nat} {t d s n bt bk bv br : Nat} {root key : Int} {val : ByteArray} {E : List Ent} (h : TrR w0 R w d s n root E) (ps : PutS bt bk bv t s root key val w) (hm : bt ∈ R ∧ bk ∈ R ∧ bv ∈ R ∧ t ∈ R) (ht0 : w0.heap.size ≤ t)
  (H0 : Nat) (h9 : H0 ≤ 8) (hE : E.length < 2 ^ (H0 + 1)) (hn : 2 * E.length + 2 * H0 + 5 ≤ n) (hk : 0 ≤ key ∧ key ≤ 18446744073709551615) (hv : val.size ≤ 40) :
  Calls Tryz.prog 92 #[.pointer (some ⟨bt, 0, none⟩), .pointer (some ⟨bk, 0, none⟩), .pointer (some ⟨bv, 0, none⟩), .pointer (some ⟨br, 0, none⟩)] w fun e w' => e = .returned (.int .i64 0) ∧ ∃ q, TrR w0 R w' d s n q (insE key val E) ∧ w'.heap[t]? = some (txC s q 0 false) ∧ ∀ k ∈ R, k ≠ t → w'.heap[k]? = w.heap[k]? := by
 have PS := Hd (show PutS bt bk bv t s root key val w.drew from ps);have PT := Hd (put_R (h.below Br.drew) H0 h9 hE hn key hk val hv);have HM := Hd hm;have HT0 := Hd ht0;clear h ps h9 hE hn hk hv ht0;go_enter Tryz.func92, Tryz.ntmps92;go_upto_region 1 with fail
 refine wp_region_held_drew (S := fun w' => PutS bt bk bv t s root key val w') (by kernel_rfl) PS.out (fun hS => ?_);refine Hv 0 8 ?va0x1 hS ?ha0x1 ?_
 case ha0x1 =>
  intro w9 s9;have k9 := (box1 s9.1).1;clear s9;go_simp;try (with_reducible rfl)
 simp only [SL];refine Hu 1 9 hS ?_;simp only [SL];refine Hu 2 10 hS ?_;simp only [SL];refine Hv 3 11 ?va3x4 hS ?ha3x4 ?_
 case ha3x4 =>
  intro w9 s9;obtain ⟨k0, k1, _, _, _⟩ := cellsT s9.2.2.2;clear s9;go_simp;try (with_reducible rfl)
 simp only [SL];refine Hv 4 12 ?va4x5 hS ?ha4x5 ?_
 case ha4x5 =>
  intro w9 s9;have k9 := (box1 s9.1).1;clear s9;go_simp;try (with_reducible rfl)
 simp only [SL];refine Hu 5 13 hS ?_;simp only [SL];refine Hu 6 14 hS ?_;simp only [SL];refine Hv 7 15 ?va7x8 hS ?ha7x8 ?_
 case ha7x8 =>
  intro w9 s9;obtain ⟨k0, k1, _, _, _⟩ := cellsT s9.2.2.2;clear s9;go_simp;try (with_reducible rfl)
 simp only [SL];refine Hv 8 16 ?va8x9 hS ?ha8x9 ?_
 case ha8x9 =>
  intro w9 s9;have k9 := (box1 s9.2.1).1;clear s9;go_simp;try (with_reducible rfl)
 simp only [SL];refine Hv 9 17 ?va9x10 hS ?ha9x10 ?_
 case ha9x10 =>
  intro w9 s9;have k9 := (box1 s9.2.2.1).1;clear s9;go_simp;try (with_reducible rfl)
 simp only [SL];refine Hs 10 (fun K HK => ?_);go_simp;go_wp2_with fail;refine PT.out.mono ?_;rintro e w6 ⟨q, rfl, hT, hK⟩;refine HK.out _ _ ?_ ?_
 ·exact hS.kept hm hK
 clear HK K;try simp only [Act.put, SL]
 have hS' := hS.kept hm hK;clear hS;have hS := hS';clear hS';refine Hu 11 7 hS ?_;simp only [SL];refine Hu 12 19 hS ?_;simp only [SL];refine Hu 13 20 hS ?_;simp only [SL];refine Hu 14 5 hS ?_;simp only [SL];refine Hu 15 6 hS ?_;simp only [SL];refine wpAnyH_done (by kernel_rfl) ?_ _;have bx := (box1 hS.1).1;obtain ⟨d0, d1, d2, d3, g⟩ := cellsT hS.2.2.2;have g1 := g 1;obtain ⟨w7, hw7⟩ : ∃ w7, w6.setCell ⟨t, 1, none⟩ (.int .i64 q) = w7 := ⟨_, rfl⟩
 have FIN : Hid (∃ q, TrR w0 R w7 d s n q (insE key val E) ∧ w7.heap[t]? = some (txC s q 0 false) ∧ ∀ k ∈ R, k ≠ t → w7.heap[k]? = w.heap[k]?) := Hd (by
  have f : Frm (fun k => k = t) w6 w7 := by rw [← hw7]; exact set_frmT _
  refine ⟨q, hT.turn HM.out.2.2.2 HT0.out f, ?_, fun k hk hne => (f.block k (hT.lt k hk) hne).trans (hK k hk)⟩;have h1 := hS.2.2.2;unfold txC at h1;rw [← hw7, heap_setCell_same _ _ 1 _ _ _ h1]
  rfl)
 clear hS hT hK g hm;go_upto_region 8 with fail
 try rw [hw7]
 clear hw7 bx d0 d1 d2 d3 g1;go_wp2_with fail;go_ret;exact ⟨rfl, FIN.out⟩
theorem boxes4 {w0 w : World} {R : List Nat} {t d s n : Nat} {root key : Int} {val : ByteArray} {E : List Ent} (h : TrR w0 (t :: R) w d s n root E) (ht : w.heap[t]? = some (txC s root 0 false)) (x4 : World)
  (hx : (((w.alloc (.cells #[.pointer (some ⟨t, 0, none⟩)] 24)).alloc (.cells #[.int .u64 key] 35)).alloc (.cells #[.string val] 9)).alloc (.cells #[.bool false] 4) = x4) :
  TrR w0 ((w.heap.size + 3) :: (w.heap.size + 2) :: (w.heap.size + 1) :: w.heap.size :: t :: R) x4 d s n root E ∧ PutS w.heap.size (w.heap.size + 1) (w.heap.size + 2) t s root key val x4 ∧ x4.heap[w.heap.size + 3]? = some (.cells #[.bool false] 4) ∧ KeptL (t :: R) w x4 ∧ t < w.heap.size ∧ (∀ k ∈ t :: R, k < w.heap.size) ∧ Below w.heap.size w x4 := by
 obtain ⟨x1, hx1⟩ : ∃ x1, w.alloc (.cells #[.pointer (some ⟨t, 0, none⟩)] 24) = x1 := ⟨_, rfl⟩
 obtain ⟨x2, hx2⟩ : ∃ x2, x1.alloc (.cells #[.int .u64 key] 35) = x2 := ⟨_, rfl⟩
 obtain ⟨x3, hx3⟩ : ∃ x3, x2.alloc (.cells #[.string val] 9) = x3 := ⟨_, rfl⟩
 rw [hx1, hx2, hx3] at hx;have z1 : x1.heap.size = w.heap.size + 1 := by rw [← hx1]; simp
 have z2 : x2.heap.size = w.heap.size + 2 := by rw [← hx2]; simp [z1]
 have z3 : x3.heap.size = w.heap.size + 3 := by rw [← hx3]; simp [z2]
 have z4 : x4.heap.size = w.heap.size + 4 := by rw [← hx]; simp [z3]
 have b1 : Below w.heap.size w x1 := by rw [← hx1]; exact below_made _ _
 have b2 : Below x1.heap.size x1 x2 := by rw [← hx2]; exact below_made _ _
 have b3 : Below x2.heap.size x2 x3 := by rw [← hx3]; exact below_made _ _
 have b4 : Below x3.heap.size x3 x4 := by rw [← hx]; exact below_made _ _
 have m1 : x1.heap[w.heap.size]? = some (.cells #[.pointer (some ⟨t, 0, none⟩)] 24) := by rw [← hx1]; exact heap_alloc_new w _
 have m2 : x2.heap[w.heap.size + 1]? = some (.cells #[.int .u64 key] 35) := by rw [← hx2, ← z1]; exact heap_alloc_new x1 _
 have m3 : x3.heap[w.heap.size + 2]? = some (.cells #[.string val] 9) := by rw [← hx3, ← z2]; exact heap_alloc_new x2 _
 have m4 : x4.heap[w.heap.size + 3]? = some (.cells #[.bool false] 4) := by rw [← hx, ← z3]; exact heap_alloc_new x3 _
 have hlt := h.lt;have ht' := hlt t (by simp);have bw : Below w.heap.size w x4 := ((b1.trans (b2.mono (by omega))).trans (b3.mono (by omega))).trans (b4.mono (by omega));refine ⟨(((h.more b1 w.heap.size (Nat.le_refl _) (by omega)).more b2 (w.heap.size + 1) (by omega) (by omega)).more b3 (w.heap.size + 2) (by omega) (by omega)).more b4 (w.heap.size + 3) (by omega) (by omega), ⟨?_, ?_, ?_, ?_⟩, m4, fun k hk => bw.block k (hlt k hk), ht', hlt, bw⟩
 ·exact (b4.block _ (by omega)).trans ((b3.block _ (by omega)).trans ((b2.block _ (by omega)).trans m1))
 ·exact (b4.block _ (by omega)).trans ((b3.block _ (by omega)).trans m2)
 ·exact (b4.block _ (by omega)).trans m3
 ·exact (bw.block t ht').trans ht
theorem setT {w1 w2 : World} {t s : Nat} {root : Int} (hc : w1.heap[t]? = some (txC s root 0 false)) (h : w1.setCell ⟨t, 2, none⟩ (.int .i64 0) = w2) : w2.heap[t]? = some (txC s root 0 false) ∧ Frm (fun k => k = t) w1 w2 := by
 have f : Frm (fun k => k = t) w1 w2 := by rw [← h]; exact set_frmT _
 refine ⟨?_, f⟩;unfold txC at hc ⊢;rw [← h, heap_setCell_same _ _ 2 _ _ _ hc]
 rfl
theorem put_T {w0 w : World} {R : List Nat} {t d s n : Nat} {root key : Int} {val : ByteArray} {E : List Ent} (h : TrR w0 (t :: R) w d s n root E) (ht : w.heap[t]? = some (txC s root 0 false)) (ht0 : w0.heap.size ≤ t)
  (H0 : Nat) (h9 : H0 ≤ 8) (hE : E.length < 2 ^ (H0 + 1)) (hn : 2 * E.length + 2 * H0 + 5 ≤ n) (hk : 0 ≤ key ∧ key ≤ 18446744073709551615) (hv : val.size ≤ 40) :
  Calls Tryz.prog 46 #[.pointer (some ⟨t, 0, none⟩), .int .u64 key, .string val] w fun e w' => e = .returned (.bool true) ∧ ∃ q, TrR w0 (t :: R) w' d s n q (insE key val E) ∧ w'.heap[t]? = some (txC s q 0 false) ∧ ∀ k ∈ R, k ≠ t → w'.heap[k]? = w.heap[k]? := by
 obtain ⟨x4, hx4⟩ : ∃ x4, (((w.alloc (.cells #[.pointer (some ⟨t, 0, none⟩)] 24)).alloc (.cells #[.int .u64 key] 35)).alloc (.cells #[.string val] 9)).alloc (.cells #[.bool false] 4) = x4 := ⟨_, rfl⟩
 obtain ⟨hT, hP, hB, hK, htl, hlt, bw⟩ := boxes4 (key := key) (val := val) h ht x4 hx4
 have DO := Hd (do_put x4 t s root #[.pointer (some ⟨w.heap.size, 0, none⟩), .pointer (some ⟨w.heap.size + 1, 0, none⟩), .pointer (some ⟨w.heap.size + 2, 0, none⟩), .pointer (some ⟨w.heap.size + 3, 0, none⟩)] hP.2.2.2
  (fun c w' => c = 0 ∧ ∃ q, TrR w0 ((w.heap.size + 3) :: (w.heap.size + 2) :: (w.heap.size + 1) :: w.heap.size :: t :: R) w' d s n q (insE key val E) ∧ w'.heap[t]? = some (txC s q 0 false) ∧ ∀ k ∈ ((w.heap.size + 3) :: (w.heap.size + 2) :: (w.heap.size + 1) :: w.heap.size :: t :: R), k ≠ t → w'.heap[k]? = x4.heap[k]?)
  ((put1_is hT hP (by simp) ht0 H0 h9 hE hn hk hv).mono fun e w' ⟨h1, q, h2, h3, h4⟩ => ⟨0, h1, ⟨rfl, q, h2, h3, h4⟩, q, h3⟩))
 have HF := Hd (And.intro hB (And.intro hK (And.intro htl (And.intro hlt ht0))));have bx := (box1 hP.1).1;have HX := Hd hx4;clear h ht hT hP hB hK htl hlt h9 hE hn hk hv ht0 bw hx4;go_enter Tryz.func46, Tryz.ntmps46;go_upto_region 2 with fail
 try simp only [Nat.add_assoc, Nat.reduceAdd, World.heap_size_alloc]
 rw [HX.out];go_wp2_with fail;refine DO.out.mono ?_;rintro e w6 ⟨c, w5, rfl, ⟨rfl, q, h1, h2, h3⟩, hw6⟩;obtain ⟨g1, g2⟩ := setT h2 hw6;have hbr : w6.heap[w.heap.size + 3]? = some (.cells #[.bool false] 4) := (g2.block _ (h1.lt _ (by simp)) (by have := HF.out.2.2.1; omega)).trans ((h3 _ (by simp) (by have := HF.out.2.2.1; omega)).trans HF.out.1);have cbr := (box1 hbr).1
 have FIN : Hid (∃ q, TrR w0 (t :: R) w6 d s n q (insE key val E) ∧ w6.heap[t]? = some (txC s q 0 false) ∧ ∀ k ∈ R, k ≠ t → w6.heap[k]? = w.heap[k]?) := Hd (by
  refine ⟨q, (h1.turn (by simp) HF.out.2.2.2.2 g2).sub (fun k hk => by simp only [List.mem_cons] at hk ⊢; rcases hk with hk | hk <;> simp [hk]), g1, fun k hk hne => ?_⟩;have hm : k ∈ ((w.heap.size + 3) :: (w.heap.size + 2) :: (w.heap.size + 1) :: w.heap.size :: t :: R) := by simp [hk]
  exact (g2.block k (h1.lt k hm) hne).trans ((h3 k hm hne).trans (HF.out.2.1 k (by simp [hk]))))
 clear h1 h2 h3 hw6 g1 g2 hbr bx;go_wp2_with fail;go_ret;exact ⟨rfl, FIN.out⟩
theorem err_T {w : World} {t s : Nat} {root e : Int} {o : Bool} (ht : w.heap[t]? = some (txC s root e o)) :
  Calls Tryz.prog 77 #[.pointer (some ⟨t, 0, none⟩)] w fun e' w' => e' = .returned (.int .i64 e) ∧ w = w' := by
 obtain ⟨c0, c1, c2, c3, _⟩ := cellsT ht;go_enter Tryz.func77, Tryz.ntmps77;go_wp2_with fail;go_ret;exact ⟨rfl, rfl⟩
def GetS (bt bk t s : Nat) (root key : Int) (w : World) : Prop := w.heap[bt]? = some (.cells #[.pointer (some ⟨t, 0, none⟩)] 24) ∧ w.heap[bk]? = some (.cells #[.int .u64 key] 35) ∧ w.heap[t]? = some (txC s root 0 false)
theorem GetS.kept {bt bk t s : Nat} {root key : Int} {w w' : World} {R : List Nat} (h : GetS bt bk t s root key w) (hm : bt ∈ R ∧ bk ∈ R ∧ t ∈ R) (hK : KeptL R w w') : GetS bt bk t s root key w' :=
 ⟨(hK _ hm.1).trans h.1, (hK _ hm.2.1).trans h.2.1, (hK _ hm.2.2).trans h.2.2⟩
theorem GetS.set {bt bk t s b i : Nat} {root key : Int} {v : Value} {w : World} (h : GetS bt bk t s root key w) (hn : bt ≠ b ∧ bk ≠ b ∧ t ≠ b) : GetS bt bk t s root key (w.setCell ⟨b, i, none⟩ v) :=
 ⟨(Below.heap_setCell _ _ _ _ hn.1).trans h.1, (Below.heap_setCell _ _ _ _ hn.2.1).trans h.2.1, (Below.heap_setCell _ _ _ _ hn.2.2).trans h.2.2⟩
theorem get1_is {w0 w : World} {R : List Nat} {t d s n bt bk bw bi : Nat} {root key : Int} {E : List Ent} (h : TrR w0 R w d s n root E) (ps : GetS bt bk t s root key w) (hm : bt ∈ R ∧ bk ∈ R ∧ t ∈ R) (hw : bw ∈ R ∧ bi ∈ R) (hl : w0.heap.size ≤ bw ∧ w0.heap.size ≤ bi) (hn : (bt ≠ bw ∧ bk ≠ bw ∧ t ≠ bw) ∧ (bt ≠ bi ∧ bk ≠ bi ∧ t ≠ bi) ∧ bw ≠ bi)
  (hv : w.heap[bw]? = some (.cells #[.string ⟨#[]⟩] 9) ∧ w.heap[bi]? = some (.cells #[.bool false] 4)) (hE : E.length ≤ 600) (hk : 0 ≤ key ∧ key ≤ 18446744073709551615) (gv : ByteArray) (gb : Bool) (hgv : getV key E = gv) (hgb : getB key E = gb) :
  Calls Tryz.prog 95 #[.pointer (some ⟨bt, 0, none⟩), .pointer (some ⟨bk, 0, none⟩), .pointer (some ⟨bw, 0, none⟩), .pointer (some ⟨bi, 0, none⟩)] w fun e w' => e = .returned (.int .i64 0) ∧ TrR w0 R w' d s n root E ∧ w'.heap[bw]? = some (.cells #[.string gv] 9) ∧ w'.heap[bi]? = some (.cells #[.bool gb] 4) ∧ ∀ k ∈ R, k ≠ bw → k ≠ bi → w'.heap[k]? = w.heap[k]? := by
 have PS := Hd (show GetS bt bk t s root key w.drew from ps);have TD := Hd (h.below Br.drew);have PT0 := get_R (h.below Br.drew) hE key hk;rw [hgv, hgb] at PT0;have PT := Hd PT0;have HN := Hd hn;have HL := Hd hl;have HV := Hd hv;clear h ps hE hk hn hl hv hgv hgb PT0;go_enter Tryz.func95, Tryz.ntmps95;go_upto_region 1 with fail
 refine wp_region_held_drew (S := fun w' => GetS bt bk t s root key w') (by kernel_rfl) PS.out (fun hS => ?_);refine Hv 0 6 ?va0x1 hS ?ha0x1 ?_
 case ha0x1 =>
  intro w9 s9;have k9 := (box1 s9.1).1;clear s9;go_simp;try (with_reducible rfl)
 simp only [SL];refine Hu 1 7 hS ?_;simp only [SL];refine Hu 2 8 hS ?_;simp only [SL];refine Hv 3 9 ?va3x4 hS ?ha3x4 ?_
 case ha3x4 =>
  intro w9 s9;obtain ⟨k0, k1, _, _, _⟩ := cellsT s9.2.2;clear s9;go_simp;try (with_reducible rfl)
 simp only [SL];refine Hv 4 10 ?va4x5 hS ?ha4x5 ?_
 case ha4x5 =>
  intro w9 s9;have k9 := (box1 s9.1).1;clear s9;go_simp;try (with_reducible rfl)
 simp only [SL];refine Hu 5 11 hS ?_;simp only [SL];refine Hu 6 12 hS ?_;simp only [SL];refine Hv 7 13 ?va7x8 hS ?ha7x8 ?_
 case ha7x8 =>
  intro w9 s9;obtain ⟨k0, k1, _, _, _⟩ := cellsT s9.2.2;clear s9;go_simp;try (with_reducible rfl)
 simp only [SL];refine Hv 8 14 ?va8x9 hS ?ha8x9 ?_
 case ha8x9 =>
  intro w9 s9;have k9 := (box1 s9.2.1).1;clear s9;go_simp;try (with_reducible rfl)
 simp only [SL];refine Hs 9 (fun K HK => ?_);go_simp;go_wp2_with fail;refine PT.out.mono ?_;rintro e w6 ⟨rfl, hb⟩;have hK : KeptL R w.drew w6 := TD.out.kept hb;have TD2 := Hd (TD.out.below hb);clear hb;refine HK.out _ _ ?_ ?_
 ·exact hS.kept hm hK
 clear HK K;try simp only [Act.put, SL]
 have hS' := hS.kept hm hK;clear hS;have hS := hS';clear hS';have V0 := (hK bw hw.1).trans HV.out.1;have I0 := (hK bi hw.2).trans HV.out.2;obtain ⟨u0, u1⟩ := box1 V0;refine Hu 10 5 hS ?_;simp only [SL];refine Hu 11 16 hS ?_;simp only [SL];refine Hu 12 17 hS ?_;simp only [SL];refine Hu 13 18 hS ?_;simp only [SL];refine Hs 14 (fun K HK => ?_);go_simp;go_wp2_with fail;refine HK.out _ _ ?_ ?_
 ·exact hS.set HN.out.1
 clear HK K;try simp only [Act.put, SL]
 have hS' := hS.set (i := 0) (v := .string gv) HN.out.1;clear hS;have hS := hS';clear hS';obtain ⟨w7, hw7⟩ : ∃ w7, w6.setCell ⟨bw, 0, none⟩ (.string gv) = w7 := ⟨_, rfl⟩
 rw [hw7] at hS;rw [hw7];have f7 : Frm (fun k => k = bw) w6 w7 := by rw [← hw7]; exact set_frmT _
 have V1 : w7.heap[bw]? = some (.cells #[.string gv] 9) := by rw [← hw7, heap_setCell_same _ _ 0 _ _ _ V0]; rfl
 have I1 := (f7.block bi (TD2.out.lt bi hw.2) (Ne.symm HN.out.2.2)).trans I0;have F7 := Hd f7;have V1' := Hd V1;have HK7 := Hd hK;clear u0 u1 V0 I0 hw7 f7 V1 hK;obtain ⟨u0, u1⟩ := box1 I1;refine Hs 15 (fun K HK => ?_);go_simp;go_wp2_with fail;refine HK.out _ _ ?_ ?_
 ·exact hS.set HN.out.2.1
 clear HK K;try simp only [Act.put, SL]
 have hS' := hS.set (i := 0) (v := .bool gb) HN.out.2.1;clear hS;have hS := hS';clear hS';obtain ⟨w8, hw8⟩ : ∃ w8, w7.setCell ⟨bi, 0, none⟩ (.bool gb) = w8 := ⟨_, rfl⟩
 rw [hw8] at hS;rw [hw8]
 have FIN : Hid (TrR w0 R w8 d s n root E ∧ w8.heap[bw]? = some (.cells #[.string gv] 9) ∧ w8.heap[bi]? = some (.cells #[.bool gb] 4) ∧ ∀ k ∈ R, k ≠ bw → k ≠ bi → w8.heap[k]? = w.heap[k]?) := Hd (by
  have f8 : Frm (fun k => k = bi) w7 w8 := by rw [← hw8]; exact set_frmT _
  have h7 := TD2.out.turn hw.1 HL.out.1 F7.out;refine ⟨h7.turn hw.2 HL.out.2 f8, (f8.block bw (h7.lt bw hw.1) HN.out.2.2).trans V1'.out, ?_, fun k hk h1 h2 => (f8.block k (h7.lt k hk) h2).trans ((F7.out.block k (TD2.out.lt k hk) h1).trans (HK7.out k hk))⟩;rw [← hw8, heap_setCell_same _ _ 0 _ _ _ I1]
  rfl)
 clear u0 u1 I1 hw8;refine Hu 16 4 hS ?_;simp only [SL];refine wpAnyH_done (by kernel_rfl) ?_ _;clear hS;go_wp2_with fail;go_ret;exact ⟨rfl, FIN.out⟩
theorem boxesG {w0 w : World} {R : List Nat} {t d s n : Nat} {root : Int} {E : List Ent} (h : TrR w0 (t :: R) w d s n root E) (o1 o2 o3 o4 : Obj) (x4 : World) (hx : (((w.alloc o1).alloc o2).alloc o3).alloc o4 = x4) :
  TrR w0 ((w.heap.size + 3) :: (w.heap.size + 2) :: (w.heap.size + 1) :: w.heap.size :: t :: R) x4 d s n root E ∧ x4.heap[w.heap.size]? = some o1 ∧ x4.heap[w.heap.size + 1]? = some o2 ∧ x4.heap[w.heap.size + 2]? = some o3 ∧ x4.heap[w.heap.size + 3]? = some o4 ∧ t < w.heap.size ∧ (∀ k ∈ t :: R, k < w.heap.size) ∧ Below w.heap.size w x4 := by
 obtain ⟨x1, hx1⟩ : ∃ x1, w.alloc o1 = x1 := ⟨_, rfl⟩
 obtain ⟨x2, hx2⟩ : ∃ x2, x1.alloc o2 = x2 := ⟨_, rfl⟩
 obtain ⟨x3, hx3⟩ : ∃ x3, x2.alloc o3 = x3 := ⟨_, rfl⟩
 rw [hx1, hx2, hx3] at hx;have z1 : x1.heap.size = w.heap.size + 1 := by rw [← hx1]; simp
 have z2 : x2.heap.size = w.heap.size + 2 := by rw [← hx2]; simp [z1]
 have z3 : x3.heap.size = w.heap.size + 3 := by rw [← hx3]; simp [z2]
 have z4 : x4.heap.size = w.heap.size + 4 := by rw [← hx]; simp [z3]
 have b1 : Below w.heap.size w x1 := by rw [← hx1]; exact below_made _ _
 have b2 : Below x1.heap.size x1 x2 := by rw [← hx2]; exact below_made _ _
 have b3 : Below x2.heap.size x2 x3 := by rw [← hx3]; exact below_made _ _
 have b4 : Below x3.heap.size x3 x4 := by rw [← hx]; exact below_made _ _
 have m1 : x1.heap[w.heap.size]? = some o1 := by rw [← hx1]; exact heap_alloc_new w _
 have m2 : x2.heap[w.heap.size + 1]? = some o2 := by rw [← hx2, ← z1]; exact heap_alloc_new x1 _
 have m3 : x3.heap[w.heap.size + 2]? = some o3 := by rw [← hx3, ← z2]; exact heap_alloc_new x2 _
 have m4 : x4.heap[w.heap.size + 3]? = some o4 := by rw [← hx, ← z3]; exact heap_alloc_new x3 _
 have hlt := h.lt;have bw : Below w.heap.size w x4 := ((b1.trans (b2.mono (by omega))).trans (b3.mono (by omega))).trans (b4.mono (by omega))
 exact ⟨(((h.more b1 w.heap.size (Nat.le_refl _) (by omega)).more b2 (w.heap.size + 1) (by omega) (by omega)).more b3 (w.heap.size + 2) (by omega) (by omega)).more b4 (w.heap.size + 3) (by omega) (by omega),
  (b4.block _ (by omega)).trans ((b3.block _ (by omega)).trans ((b2.block _ (by omega)).trans m1)), (b4.block _ (by omega)).trans ((b3.block _ (by omega)).trans m2), (b4.block _ (by omega)).trans m3, m4, hlt t (by simp), hlt, bw⟩
theorem get_T {w0 w : World} {R : List Nat} {t d s n : Nat} {root key : Int} {E : List Ent} (h : TrR w0 (t :: R) w d s n root E) (ht : w.heap[t]? = some (txC s root 0 false)) (ht0 : w0.heap.size ≤ t) (hE : E.length ≤ 600) (hk : 0 ≤ key ∧ key ≤ 18446744073709551615) (gv : ByteArray) (gb : Bool) (hgv : getV key E = gv) (hgb : getB key E = gb) :
  Calls Tryz.prog 49 #[.pointer (some ⟨t, 0, none⟩), .int .u64 key] w fun e w' => e = .returned (.tuple #[.string gv, .bool gb]) ∧ TrR w0 (t :: R) w' d s n root E ∧ w'.heap[t]? = some (txC s root 0 false) ∧ ∀ k ∈ R, k ≠ t → w'.heap[k]? = w.heap[k]? := by
 obtain ⟨x4, hx4⟩ : ∃ x4, (((w.alloc (.cells #[.pointer (some ⟨t, 0, none⟩)] 24)).alloc (.cells #[.int .u64 key] 35)).alloc (.cells #[.string ⟨#[]⟩] 9)).alloc (.cells #[.bool false] 4) = x4 := ⟨_, rfl⟩
 obtain ⟨hT, m1, m2, m3, m4, htl, hlt, bw⟩ := boxesG h _ _ _ _ x4 hx4;have ht4 := (bw.block t htl).trans ht;have hs0 := h.size.size
 have DO := Hd (do_get x4 t s root #[.pointer (some ⟨w.heap.size, 0, none⟩), .pointer (some ⟨w.heap.size + 1, 0, none⟩), .pointer (some ⟨w.heap.size + 2, 0, none⟩), .pointer (some ⟨w.heap.size + 3, 0, none⟩)] ht4
  (fun c w' => c = 0 ∧ TrR w0 ((w.heap.size + 3) :: (w.heap.size + 2) :: (w.heap.size + 1) :: w.heap.size :: t :: R) w' d s n root E ∧ w'.heap[w.heap.size + 2]? = some (.cells #[.string gv] 9) ∧ w'.heap[w.heap.size + 3]? = some (.cells #[.bool gb] 4) ∧ ∀ k ∈ ((w.heap.size + 3) :: (w.heap.size + 2) :: (w.heap.size + 1) :: w.heap.size :: t :: R), k ≠ w.heap.size + 2 → k ≠ w.heap.size + 3 → w'.heap[k]? = x4.heap[k]?)
  ((get1_is hT ⟨m1, m2, ht4⟩ (by simp) (by simp) ⟨by omega, by omega⟩ ⟨⟨by omega, by omega, by omega⟩, ⟨by omega, by omega, by omega⟩, by omega⟩ ⟨m3, m4⟩ hE hk gv gb hgv hgb).mono fun e w' ⟨h1, h2, h3, h4, h5⟩ => ⟨0, h1, ⟨rfl, h2, h3, h4, h5⟩, root, (h5 t (by simp) (by omega) (by omega)).trans ht4⟩))
 have HF := Hd (And.intro ht4 (And.intro bw (And.intro htl (And.intro hlt ht0))));have bx := (box1 m1).1;have HX := Hd hx4;clear h ht hT m1 m2 m3 m4 htl hlt ht0 bw hx4 hE hk hgv hgb ht4 hs0;go_enter Tryz.func49, Tryz.ntmps49;go_upto_region 3 with fail
 try simp only [Nat.add_assoc, Nat.reduceAdd, World.heap_size_alloc]
 rw [HX.out];go_wp2_with fail;refine DO.out.mono ?_;rintro e w6 ⟨c, w5, rfl, ⟨rfl, h1, h2, h3, h4⟩, hw6⟩;have htl := HF.out.2.2.1;obtain ⟨g1, g2⟩ := setT ((h4 t (by simp) (by omega) (by omega)).trans HF.out.1) hw6;have cv := (box1 ((g2.block _ (h1.lt (w.heap.size + 2) (by simp)) (by omega)).trans h2)).1;have ci := (box1 ((g2.block _ (h1.lt (w.heap.size + 3) (by simp)) (by omega)).trans h3)).1
 have FIN : Hid (TrR w0 (t :: R) w6 d s n root E ∧ w6.heap[t]? = some (txC s root 0 false) ∧ ∀ k ∈ R, k ≠ t → w6.heap[k]? = w.heap[k]?) := Hd (by
  refine ⟨(h1.turn (by simp) HF.out.2.2.2.2 g2).sub (fun k hk => by simp only [List.mem_cons] at hk ⊢; rcases hk with hk | hk <;> simp [hk]), g1, fun k hk hne => ?_⟩;have hm : k ∈ ((w.heap.size + 3) :: (w.heap.size + 2) :: (w.heap.size + 1) :: w.heap.size :: t :: R) := by simp [hk]
  have hkl := HF.out.2.2.2.1 k (by simp [hk]);exact (g2.block k (h1.lt k hm) hne).trans ((h4 k hm (by omega) (by omega)).trans (HF.out.2.1.block k hkl)))
 clear h1 h2 h3 h4 hw6 g1 g2 bx htl;go_wp2_with fail
 go_quiet (fail)
 have F2 : Hid (TrR w0 (t :: R) (w6.drewN nq) d s n root E ∧ (w6.drewN nq).heap[t]? = some (txC s root 0 false) ∧ ∀ k ∈ R, k ≠ t → (w6.drewN nq).heap[k]? = w.heap[k]?) := Hd (by
  have b := Below.refl w6.heap.size w6;exact ⟨FIN.out.1.below ⟨b.os, b.tape, b.output, b.size, b.block⟩, FIN.out.2.1, FIN.out.2.2⟩)
 clear FIN;go_wp2_with fail;go_ret2;exact ⟨rfl, F2.out⟩
theorem begin_L {w0 w : World} {d s n : Nat} {dk : DkS} (h : DSL w0 w d s dk (ShS.new fmtH)) (G : Good dk (ShS.new fmtH)) (hT : TreeI dk (ShS.new fmtH) 0 []) (hl : dk.S.length = n) :
  Calls Tryz.prog 42 #[.pointer (some ⟨s, 0, none⟩)] w fun e w' => ∃ t, e = .returned (.pointer (some ⟨t, 0, none⟩)) ∧ TrR w0 [t] w' d s n 0 [] ∧ w'.heap[t]? = some (txC s 0 0 false) ∧ w0.heap.size ≤ t := by
 have RB := Hd (rollback_L h);have RT := Hd fun wq (hq : DSL w0 wq d s dk (ShS.new fmtH)) => root_L hq
 have HG := Hd (And.intro G (And.intro hT hl));clear h G hT hl;go_enter Tryz.func42, Tryz.ntmps42;go_wp2_with fail;refine RB.out.mono ?_;rintro e w1 ⟨rfl, hs⟩;have HS1 : Hid (DSL w0 w1 d s dk (ShS.new fmtH)) := Hd hs;clear hs RB;go_wp2_with fail;refine (RT.out _ HS1.out).mono ?_;rintro e w2 ⟨rfl, rfl⟩;rw [show (ShS.new fmtH).h.root = 0 from rfl]
 have FIN : Hid (TrR w0 [w1.heap.size] (w1.alloc (txC s 0 0 false)) d s n 0 [] ∧ (w1.alloc (txC s 0 0 false)).heap[w1.heap.size]? = some (txC s 0 0 false) ∧ w0.heap.size ≤ w1.heap.size) := Hd (by
  obtain ⟨FD, FS, h1, h2, h3, h4⟩ := HS1.out;have hq : TrR w0 [] w1 d s n 0 [] := ⟨h2, fun k => FD k ∨ FS k, ⟨dk, _, ⟨FD, FS, h1, fun _ => Iff.rfl⟩, HG.out.1, HG.out.2.1, HG.out.2.2, rfl⟩, fun k hk => hk.elim (h3 k) (h4 k), fun k hk => by cases hk⟩
  exact ⟨hq.more (below_made _ _) _ (Nat.le_refl _) (by simp), heap_alloc_new _ _, h2.size⟩)
 unfold txC at FIN;clear HS1 RT HG;go_wp2_with fail;go_ret;exact ⟨_, rfl, FIN.out⟩
def TxS (w0 : World) (R : List Nat) (w : World) (t d s n : Nat) (E : List Ent) : Prop := (∃ root, TrR w0 (t :: R) w d s n root E ∧ w.heap[t]? = some (txC s root 0 false)) ∧ w0.heap.size ≤ t
def KeptT (R : List Nat) (t : Nat) (w w' : World) : Prop := ∀ k ∈ R, k ≠ t → w'.heap[k]? = w.heap[k]?
theorem KeptT.trans {R : List Nat} {t : Nat} {a b c : World} (h : KeptT R t a b) (k : KeptT R t b c) : KeptT R t a c := fun i hi hn => (k i hi hn).trans (h i hi hn)
theorem KeptT.refl (R : List Nat) (t : Nat) (w : World) : KeptT R t w w := fun _ _ _ => rfl
theorem KeptT.sub {R R' : List Nat} {t : Nat} {a b : World} (h : KeptT R t a b) (hs : ∀ k ∈ R', k ∈ R) : KeptT R' t a b := fun i hi hn => h i (hs i hi) hn
section
variable {w0 w w' : World} {R R' : List Nat} {t d s n : Nat} {E : List Ent}
theorem TxS.lt (h : TxS w0 R w t d s n E) : (∀ k ∈ R, k < w.heap.size) ∧ t < w.heap.size := by
 obtain ⟨⟨q, h1, h2⟩, _⟩ := h;exact ⟨fun k hk => h1.lt k (List.mem_cons_of_mem _ hk), h1.lt t (List.mem_cons_self ..)⟩
theorem TxS.from (h : TxS w0 R w t d s n E) : Below w0.heap.size w0 w := by
 obtain ⟨⟨q, h1, h2⟩, _⟩ := h;exact h1.size
theorem TxS.below (h : TxS w0 R w t d s n E) (hb : Below w.heap.size w w') : TxS w0 R w' t d s n E := by
 have hl := h.lt.2;obtain ⟨⟨q, h1, h2⟩, h3⟩ := h;exact ⟨⟨q, h1.below hb, (hb.block t hl).trans h2⟩, h3⟩
theorem TxS.kept (h : TxS w0 R w t d s n E) (hb : Below w.heap.size w w') : KeptT R t w w' := fun k hk _ => hb.block k (h.lt.1 k hk)
theorem TxS.sub (h : TxS w0 R w t d s n E) (hs : ∀ k ∈ R', k ∈ R) : TxS w0 R' w t d s n E := by
 obtain ⟨⟨q, h1, h2⟩, h3⟩ := h;exact ⟨⟨q, h1.sub (fun k hk => by simp only [List.mem_cons] at hk ⊢; exact hk.imp id (hs k)), h2⟩, h3⟩
theorem TxS.more (h : TxS w0 R w t d s n E) (hb : Below w.heap.size w w') (k : Nat) (h1 : w.heap.size ≤ k) (h2 : k < w'.heap.size) : TxS w0 (k :: R) w' t d s n E := by
 have hl := h.lt.2;obtain ⟨⟨q, g1, g2⟩, g3⟩ := h;exact ⟨⟨q, (g1.more hb k h1 h2).sub (fun i hi => by simp only [List.mem_cons] at hi ⊢; rcases hi with hi | hi | hi <;> simp [hi]), (hb.block t hl).trans g2⟩, g3⟩
theorem TxS.turn (h : TxS w0 R w t d s n E) {k : Nat} (hk : k ∈ R) (hn : k ≠ t) (h0 : w0.heap.size ≤ k) (hf : Frm (fun x => x = k) w w') : TxS w0 R w' t d s n E := by
 have hl := h.lt.2;obtain ⟨⟨q, h1, h2⟩, h3⟩ := h;exact ⟨⟨q, h1.turn (List.mem_cons_of_mem _ hk) h0 hf, (hf.block t hl (fun e => hn e.symm)).trans h2⟩, h3⟩
theorem TxS.box (h : TxS w0 R w t d s n E) (o : Obj) : TxS w0 (w.heap.size :: R) (w.alloc o) t d s n E ∧ KeptT R t w (w.alloc o) ∧ (w.alloc o).heap[w.heap.size]? = some o ∧ w.heap.size ≠ t ∧ (w.alloc o).heap.size = w.heap.size + 1 ∧ w0.heap.size ≤ w.heap.size ∧ ∀ k ∈ R, k ≠ w.heap.size := by
 have hb := below_made w o;have hl := h.lt;refine ⟨h.more hb _ (Nat.le_refl _) (by simp), h.kept hb, heap_alloc_new w o, by omega, by simp, h.from.size, fun k hk => ?_⟩;have := hl.1 k hk;omega
theorem err_S (h : TxS w0 R w t d s n E) :
  Calls Tryz.prog 77 #[.pointer (some ⟨t, 0, none⟩)] w fun e' w' => e' = .returned (.int .i64 0) ∧ w = w' := by
 obtain ⟨⟨q, h1, h2⟩, h3⟩ := h;exact err_T h2
theorem put_S {key : Int} {val : ByteArray} (h : TxS w0 R w t d s 640 E) (hE : E.length ≤ 300) (hk : 0 ≤ key ∧ key ≤ 18446744073709551615) (hv : val.size ≤ 40) :
  Calls Tryz.prog 46 #[.pointer (some ⟨t, 0, none⟩), .int .u64 key, .string val] w fun e w' => e = .returned (.bool true) ∧ TxS w0 R w' t d s 640 (insE key val E) ∧ KeptT R t w w' := by
 obtain ⟨⟨q, h1, h2⟩, h3⟩ := h;refine (put_T h1 h2 h3 8 (by decide) (by omega) (by omega) hk hv).mono ?_;rintro e w' ⟨rfl, q', g1, g2, g3⟩;exact ⟨rfl, ⟨⟨q', g1, g2⟩, h3⟩, g3⟩
theorem get_S {key : Int} (h : TxS w0 R w t d s n E) (hE : E.length ≤ 600) (hk : 0 ≤ key ∧ key ≤ 18446744073709551615) (gv : ByteArray) (gb : Bool) (hgv : getV key E = gv) (hgb : getB key E = gb) :
  Calls Tryz.prog 49 #[.pointer (some ⟨t, 0, none⟩), .int .u64 key] w fun e w' => e = .returned (.tuple #[.string gv, .bool gb]) ∧ TxS w0 R w' t d s n E ∧ KeptT R t w w' := by
 obtain ⟨⟨q, h1, h2⟩, h3⟩ := h;refine (get_T h1 h2 h3 hE hk gv gb hgv hgb).mono ?_;rintro e w' ⟨rfl, g1, g2, g3⟩;exact ⟨rfl, ⟨⟨q, g1, g2⟩, h3⟩, g3⟩
end
theorem ptr_nilT (a : Addr) (w : World) : (binOp .eql 24 (.pointer (some a)) (.pointer none)).run Tryz.prog w = .ok (.bool false) w := by kernel_rfl
end Go.Proofs.YthcejfnngkmojaaGreatDoor
