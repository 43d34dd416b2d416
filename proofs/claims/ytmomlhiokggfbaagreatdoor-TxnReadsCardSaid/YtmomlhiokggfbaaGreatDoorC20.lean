/-
 TrFr, TrSn, TrEt, Td, RefSl, Rk, RkW, RkY, RkN, RkS, Ref01P, Rf09, TrBg, TrVa, MapW, TrLk.
-/
import Derived.Test.YtmomlhiokggfbaaGreatDoorC19
import Derived.Maps.OwnIn
import Derived.Test.YtmomlhiokggfbaaGreatDoorC18
import Derived.BigQuiet
import Derived.Test.YtmomlhiokggfbaaGreatDoorC07
import Derived.Deep.RegionHeld3
import Derived.StillTailTactics
import Derived.Test.YtmomlhiokggfbaaGreatDoorC13
import Derived.Test.YtmomlhiokggfbaaGreatDoorC12
import Derived.Test.YtmomlhiokggfbaaGreatDoorC03
import Derived.Test.YtmomlhiokggfbaaGreatDoorC08
import Derived.Test.YtmomlhiokggfbaaGreatDoorC01
import Derived.Test.YtmomlhiokggfbaaGreatDoorC04
import Derived.MapKept
namespace Go.Proofs.YtmomlhiokggfbaaGreatDoor
open Go.RowKit
set_option maxRecDepth 20000
set_option maxHeartbeats 12800000
set_option linter.unusedVariables false
set_option linter.unusedSimpArgs false
attribute [local go_sem] Oper.semAt_some
structure BoxF (w : World) (g : Nat) (p dp key : Int) (b0 b1 b2 b3 : Nat) : Prop where
 v : w.heap[b0]? = some (.cells #[.pointer (some ⟨g, 0, none⟩)] 138)
 p : w.heap[b1]? = some (.cells #[.int .i64 p] 3)
 d : w.heap[b2]? = some (.cells #[.int .i64 dp] 3)
 k : w.heap[b3]? = some (.cells #[.int .u64 key] 28)
theorem from_is (w : World) (g : Nat) (p dp key : Int) :
  Calls Tryz.prog 52 #[.pointer (some ⟨g, 0, none⟩), .int .i64 p, .int .i64 dp, .int .u64 key] w fun e w' => e = .returned (.func (.func 90) #[] #[.pointer (some ⟨w.heap.size, 0, none⟩), .pointer (some ⟨w.heap.size + 1, 0, none⟩), .pointer (some ⟨w.heap.size + 2, 0, none⟩), .pointer (some ⟨w.heap.size + 3, 0, none⟩)]) ∧ BoxF w' g p dp key w.heap.size (w.heap.size + 1) (w.heap.size + 2) (w.heap.size + 3) ∧ Below w.heap.size w w' ∧ w'.heap.size = w.heap.size + 4 := by
 obtain ⟨x0, hx0⟩ : ∃ x, w.alloc (.cells #[.pointer (some ⟨g, 0, none⟩)] 138) = x := ⟨_, rfl⟩
 obtain ⟨x1, hx1⟩ : ∃ x, x0.alloc (.cells #[.int .i64 p] 3) = x := ⟨_, rfl⟩
 obtain ⟨x2, hx2⟩ : ∃ x, x1.alloc (.cells #[.int .i64 dp] 3) = x := ⟨_, rfl⟩
 obtain ⟨wa, hwa⟩ : ∃ x, x2.alloc (.cells #[.int .u64 key] 28) = x := ⟨_, rfl⟩
 have SZ : Hid (x0.heap.size = w.heap.size + 1 ∧ x1.heap.size = w.heap.size + 2 ∧ x2.heap.size = w.heap.size + 3) := Hd (by
  have s0 : x0.heap.size = w.heap.size + 1 := by rw [← hx0]; simp
  have s1 : x1.heap.size = w.heap.size + 2 := by rw [← hx1]; simp; omega
  have s2 : x2.heap.size = w.heap.size + 3 := by rw [← hx2]; simp; omega
  exact ⟨s0, s1, s2⟩)
 have FIN : Hid (BoxF wa g p dp key w.heap.size (w.heap.size + 1) (w.heap.size + 2) (w.heap.size + 3) ∧ Below w.heap.size w wa ∧ wa.heap.size = w.heap.size + 4) := by
  obtain ⟨s0, s1, s2⟩ := SZ.out;have n0 := heap_alloc_new w (.cells #[.pointer (some ⟨g, 0, none⟩)] 138);have n1 := heap_alloc_new x0 (.cells #[.int .i64 p] 3);have n2 := heap_alloc_new x1 (.cells #[.int .i64 dp] 3);have n3 := heap_alloc_new x2 (.cells #[.int .u64 key] 28);rw [hx0] at n0;rw [hx1, s0] at n1;rw [hx2, s1] at n2;rw [hwa, s2] at n3;have t1 := below_made x0 (.cells #[.int .i64 p] 3);have t2 := below_made x1 (.cells #[.int .i64 dp] 3);have t3 := below_made x2 (.cells #[.int .u64 key] 28);have t0 := below_made w (.cells #[.pointer (some ⟨g, 0, none⟩)] 138);rw [hx0] at t0;rw [hx1] at t1
  rw [hx2] at t2;rw [hwa] at t3;refine Hd ⟨⟨?_, ?_, ?_, n3⟩, ?_, ?_⟩
  ·exact (t3.block _ (by omega)).trans ((t2.block _ (by omega)).trans ((t1.block _ (by omega)).trans n0))
  ·exact (t3.block _ (by omega)).trans ((t2.block _ (by omega)).trans n1)
  ·exact (t3.block _ (by omega)).trans n2
  ·exact ((t0.trans (t1.mono (by omega))).trans (t2.mono (by omega))).trans (t3.mono (by omega))
  ·rw [← hwa]; simp; omega
 go_enter Tryz.func52, Tryz.ntmps52;go_wp2_with fail;go_ret;rw [SZ.out.1, SZ.out.2.1, SZ.out.2.2];exact ⟨rfl, FIN.out⟩
def encE (e : Ent) : Array Value := #[.agg #[.int .u64 e.1, .string e.2]]
def FF (F : Nat → Prop) (b0 b1 b2 b3 : Nat) (k : Nat) : Prop := F k ∨ k = b0 ∨ k = b1 ∨ k = b2 ∨ k = b3
theorem BoxF.kept {w w' : World} {g : Nat} {p dp key : Int} {b0 b1 b2 b3 : Nat} (h : BoxF w g p dp key b0 b1 b2 b3) (e0 : w'.heap[b0]? = w.heap[b0]?) (e1 : w'.heap[b1]? = w.heap[b1]?) (e2 : w'.heap[b2]? = w.heap[b2]?) (e3 : w'.heap[b3]? = w.heap[b3]?) : BoxF w' g p dp key b0 b1 b2 b3 := ⟨e0.trans h.v, e1.trans h.p, e2.trans h.d, e3.trans h.k⟩
theorem BoxF.lt {w : World} {g : Nat} {p dp key : Int} {b0 b1 b2 b3 : Nat} (h : BoxF w g p dp key b0 b1 b2 b3) : b0 < w.heap.size ∧ b1 < w.heap.size ∧ b2 < w.heap.size ∧ b3 < w.heap.size := ⟨(Array.getElem?_eq_some_iff.1 h.v).1, (Array.getElem?_eq_some_iff.1 h.p).1, (Array.getElem?_eq_some_iff.1 h.d).1, (Array.getElem?_eq_some_iff.1 h.k).1⟩
def scQ (key : Int) (Q : List Kid) : List Ent := (Q.map fun q => scanE key (entsM q.F)).flatten
theorem scQ_at {key : Int} {Q : List Kid} {m : Nat} {q : Kid} (h : Q[m]? = some q) : scQ key Q = scQ key (Q.take m) ++ (scanE key (entsM q.F) ++ scQ key (Q.drop (m + 1))) ∧ scQ key (Q.take (m + 1)) = scQ key (Q.take m) ++ scanE key (entsM q.F) := by
 obtain ⟨hm, rfl⟩ := List.getElem?_eq_some_iff.1 h;unfold scQ;constructor
 ·conv => lhs; rw [← List.take_append_drop m Q, List.drop_eq_getElem_cons hm]
  rw [List.map_append, List.flatten_append, List.map_cons, List.flatten_cons]
 ·rw [List.take_succ_eq_append_getElem hm, List.map_append, List.flatten_append]
  simp
theorem zd_step {α : Type} {Z : List α} {i m : Nat} {x : α} (hi : i ≤ m) (hx : Z[m]? = some x) : (Z.take (m + 1)).drop i = (Z.take m).drop i ++ [x] := by
 obtain ⟨hm, rfl⟩ := List.getElem?_eq_some_iff.1 hx;rw [List.take_succ_eq_append_getElem hm, List.drop_append_of_le_length (by rw [List.length_take]; omega)]
theorem zd_pre {α : Type} (Z : List α) (i m : Nat) : (Z.take m).drop i <+: Z.drop i := by
 have h : Z.drop i = (Z.take m).drop i ++ (Z.drop m).drop (i - (Z.take m).length) := by rw [← List.drop_append, List.take_append_drop]
 rw [h];exact List.prefix_append _ _
def noPan (Q : Exit → Act → World → Prop) : Exit → Act → World → Prop
 | .panic _, _, _ => False
 | .normal, a, w => Q .normal a w
 | .ret, a, w => Q .ret a w
 | .exit i, a, w => Q (.exit i) a w
 | .goto i, a, w => Q (.goto i) a w
 | .outgrown, a, w => Q .outgrown a w
theorem of_noPan {Q : Exit → Act → World → Prop} : ∀ e a w, noPan Q e a w → Q e a w := fun e a w h => by
 cases e
 case panic => exact h.elim
 all_goals exact h
theorem cellsE {w : World} {b : Nat} {v0 v1 : Value} {T : TypeId} (h : w.heap[b]? = some (.cells #[v0, v1] T)) : w.cell? ⟨b, 0, none⟩ = some v0 ∧ w.cell? ⟨b, 1, none⟩ = some v1 := by
 refine ⟨?_, ?_⟩ <;> (rw [Go.Joins.cell_of_block h]; rfl)
theorem from_iter (key : Int) (h : Nat) : ∀ (w : World) (d s g : Nat) (dk : DkS) (st : ShS) (r : Nat) (F : Nat → Prop) (hT : TS w d s g dk st r F) (hu : st.up = true) (p : Int) (Fm : List Mk) (P : List Int) (ht : IsT (Rn dk) h p Fm P) (hs : SortM Fm) (dp : Int) (h1 : 1 ≤ dp) (hd : dp + h ≤ 10) (hr : r + P.length ≤ 640) (b0 b1 b2 b3 : Nat) (hb : BoxF w g p dp key b0 b1 b2 b3) (hbF : ¬ F b0 ∧ ¬ F b1 ∧ ¬ F b2 ∧ ¬ F b3),
  IterOk Tryz.prog 90 #[.pointer (some ⟨b0, 0, none⟩), .pointer (some ⟨b1, 0, none⟩), .pointer (some ⟨b2, 0, none⟩), .pointer (some ⟨b3, 0, none⟩)] encE (FF F b0 b1 b2 b3) (VP d s g dk st r F P.length) (scanE key (entsM Fm)) w := by
 induction h using Nat.strongRecOn with
 | _ h ih =>
  intro w d s g dk st r F hT hu p Fm P ht hs dp h1 hd hr b0 b1 b2 b3 hb hbF l J Jx W C hW hJ hJx hlt hltx hCG hR h0;obtain ⟨M, PM, hM, hK, hNT, rfl⟩ := ht;have hTW := hT.below hW;have hlt0 := hb.lt;have hbW := hb.kept (hW.block _ hlt0.1) (hW.block _ hlt0.2.1) (hW.block _ hlt0.2.2.1) (hW.block _ hlt0.2.2.2);obtain ⟨y, hy⟩ : ∃ y, W.heap.size = y := ⟨_, rfl⟩
  obtain ⟨W1, hW1⟩ : ∃ W1, W.alloc (.cells #[.func (.yield l) #[] #[]] 158) = W1 := ⟨_, rfl⟩
  have bW1 : Below W.heap.size W W1 := by rw [← hW1]; exact below_made _ _
  have hT1 := hTW.below bW1;have ltW := hbW.lt;have hbW1 := hbW.kept (bW1.block _ ltW.1) (bW1.block _ ltW.2.1) (bW1.block _ ltW.2.2.1) (bW1.block _ ltW.2.2.2);have VN := Hd (vnode_is W1 d s g dk st r F hT1 hu (by simp only [List.length_cons] at hr; omega) p dp (by omega) M hM);have c0 := (box1 hbW1.v).1;have c1 := (box1 hbW1.p).1;have c2 := (box1 hbW1.d).1;refine (callsIn_wide (n := 0)).1 (callsIn_of_wp_marks (F := Fence.wide) (n := 0) Tryz.func90 rfl trivial (wpIn_wide.2 ?_) rfl)
  simp only [Tryz.ntmps90, List.size_toArray, List.length_cons, List.length_nil, Nat.reduceAdd, Nat.reduceSub, Array.replicate_succ, Array.replicate_zero, List.push_toArray, List.append_toArray, List.nil_append, List.cons_append];go_upto_region 1 with fail
  go_wp2_with fail;refine VN.out.mono ?_;rintro e w2 ⟨⟨ak, av, ac, ck, cv, cc, rfl, hNR, q1, q2, q3, u1, u2⟩, hT2, hf2⟩;simp only [nodV];obtain ⟨nb, hnb⟩ : ∃ nb, w2.heap.size = nb := ⟨_, rfl⟩
  obtain ⟨w3, hw3⟩ : ∃ w3, w2.alloc (.cells #[.bool M.leaf, .slice ak M.K.length ck, .slice av M.V.length cv, .slice ac M.C.length cc] 97) = w3 := ⟨_, rfl⟩
  have s1 : W1.heap.size = y + 1 := by rw [← hW1, ← hy]; simp
  have s2 : y + 1 ≤ nb := by have := hf2.size; omega
  have X3 : w3.heap[nb]? = some (.cells #[.bool M.leaf, .slice ak M.K.length ck, .slice av M.V.length cv, .slice ac M.C.length cc] 97) := by
   rw [← hw3, ← hnb]; exact heap_alloc_new w2 _
  have b23 : Below nb w2 w3 := by rw [← hw3, ← hnb]; exact below_made _ _
  have fg3 : Frm (fun k => k = g) W w3 := ((Frm.of_below bW1).trans hf2 fun k hk => .inl hk).trans (G := fun _ => False) (Frm.of_below (by rw [hnb]; exact b23)) fun _ h => h.elim
  have hgF : F g := by obtain ⟨FD, FS, _, he⟩ := hT2; exact (he g).2 (.inr (.inr rfl))
  have hT3 : TS w3 d s g dk st (r + 1) F := hT2.below (by rw [hnb]; exact b23);have hNR3 := hNR.below (by rw [hnb]; exact b23);have Y1 : W1.heap[y]? = some (.cells #[.func (.yield l) #[] #[]] 158) := by rw [← hW1, ← hy]; exact heap_alloc_new _ _
  have hgW := hTW.lt g hgF;have Y3 : w3.heap[y]? = some (.cells #[.func (.yield l) #[] #[]] 158) := (b23.block _ (by omega)).trans ((hf2.block y (by omega) (by omega)).trans Y1);have hb3 : BoxF w3 g p dp key b0 b1 b2 b3 := hbW.kept (fg3.block _ ltW.1 (fun e => hbF.1 (e ▸ hgF))) (fg3.block _ ltW.2.1 (fun e => hbF.2.1 (e ▸ hgF))) (fg3.block _ ltW.2.2.1 (fun e => hbF.2.2.1 (e ▸ hgF))) (fg3.block _ ltW.2.2.2 (fun e => hbF.2.2.2 (e ▸ hgF)))
  have FND : Hid (∃ (i : Nat) (fd : Bool), findN M key = (i, fd) ∧ i ≤ M.K.length ∧ ((M.leaf = true ∧ M.V.length = M.K.length ∧ scanE key (entsM Fm) = (M.K.zip M.V).drop i) ∨ (M.leaf = false ∧ ∃ (h' : Nat) (Q : List Kid), h' < h ∧ M.C = kP Q ∧ Q.length = M.K.length + 1 ∧ (∀ q ∈ Q, IsT (Rn dk) h' q.p q.F q.P ∧ SortM q.F) ∧ scanE key (entsM Fm) = scQ key (Q.drop i) ∧ PM = kPs Q))) := Hd (by
   cases h with
   | zero =>
    obtain ⟨i, fd, f1, f2, f3⟩ := scan_leaf hNT hs key;exact ⟨i, fd, f1, f2, .inl ⟨hNT.1, hNT.2.1, f3⟩⟩
   | succ h =>
    obtain ⟨Q, i, f1, f2, f3, f4, f5, f6, f7⟩ := scan_branch hNT hs key;exact ⟨i, true, f1, f2, .inr ⟨(NodT_succ.1 hNT).1, h, Q, Nat.lt_succ_self _, f3, f4, f5, f6, f7⟩⟩)
  obtain ⟨i, fd, hfn, hiK, hSC⟩ := FND.out;have FI := Hd (find_is M ak av ac ck cv cc w3 hNR3 key i fd (Hd hfn));have cn := cells4 X3;have ck3 := (box1 hb3.k).1;have HNT := Hd hNT;have HSC := Hd hSC;have H23 := Hd (And.intro hnb s2);obtain ⟨n0, n1, n2, n3⟩ := cn;clear c0 c1 c2 hT1 hbW1 VN b23 s1 s2 hT2 hf2 u1 u2 hSC hNT hNR FND;go_upto_region 4 with fail
  try rw [hw3]
  simp only [nodV] at FI;go_wp2_with fail;refine FI.out.mono ?_;rintro e w4 ⟨rfl, b4⟩;clear FI hw3;have fg4 : Frm (fun k => k = g) W w4 := fg3.trans (G := fun _ => False) (Frm.of_below b4) fun _ h => h.elim
  have lt3 : ∀ {k : Nat} {o : Obj}, w3.heap[k]? = some o → k < w3.heap.size := fun h => (Array.getElem?_eq_some_iff.1 h).1
  have X4 := (b4.block _ (lt3 X3)).trans X3;have Y4 := (b4.block _ (lt3 Y3)).trans Y3;have hb4 := hb3.kept (b4.block _ hb3.lt.1) (b4.block _ hb3.lt.2.1) (b4.block _ hb3.lt.2.2.1) (b4.block _ hb3.lt.2.2.2);have hT4 := hT3.below b4;have hNR4 := hNR3.below b4;obtain ⟨H, hH⟩ : ∃ H : Nat → Prop, H = fun k => k = y ∨ k = nb ∨ (∃ x, ac = some x ∧ k = x.block ∧ M.C ≠ []) ∨ (∃ x, ak = some x ∧ k = x.block ∧ M.K ≠ []) ∨ (∃ x, av = some x ∧ k = x.block ∧ M.V ≠ []) ∨ k = b0 ∨ k = b1 ∨ k = b2 ∨ k = b3 := ⟨_, rfl⟩
  have hC0 : ∀ k, C k → k < y := fun k hk => by have := hlt _ _ _ h0 k hk; omega
  have hU : Under W C (FF F b0 b1 b2 b3) H w4 C w4 := by
   have hz3 := fg4.size;obtain ⟨hnb, s2⟩ := H23.out;have hw1 : W.heap.size ≤ W1.heap.size := bW1.size;refine ⟨fg4.mono fun k hk => .inr (.inl (hk ▸ hgF)), fun k hk => .inl hk, hCG, fun k hk hh => ?_, fun k hh => ⟨?_, rfl⟩, Nat.le_refl _, fun k hk => ?_, hz3⟩
   ·have hk' := hC0 k hk
    rw [hH] at hh
    rcases hh with h2 | h2 | ⟨x, h2, h3, _⟩ | ⟨x, h2, h3, _⟩ | ⟨x, h2, h3, _⟩ | h2 | h2 | h2 | h2
    ·omega
    ·omega
    ·have := q3 x h2; omega
    ·have := q1 x h2; omega
    ·have := q2 x h2; omega
    ·exact hCG k hk (.inr (.inl h2))
    ·exact hCG k hk (.inr (.inr (.inl h2)))
    ·exact hCG k hk (.inr (.inr (.inr (.inl h2))))
    ·exact hCG k hk (.inr (.inr (.inr (.inr h2))))
   ·rw [hH] at hh
    rcases hh with rfl | rfl | ⟨x, h2, h3, h4⟩ | ⟨x, h2, h3, h4⟩ | ⟨x, h2, h3, h4⟩ | rfl | rfl | rfl | rfl
    ·exact (Array.getElem?_eq_some_iff.1 Y4).1
    ·exact (Array.getElem?_eq_some_iff.1 X4).1
    ·rcases hNR4.c with h5 | ⟨bb, off, h5, h6, _⟩
     ·exact absurd (by simpa using h5) h4
     ·rw [h2] at h5; injection h5 with h5; rw [h3, h5]; exact h6
    ·rcases hNR4.k with h5 | ⟨bb, off, h5, h6, _⟩
     ·exact absurd (by simpa using h5) h4
     ·rw [h2] at h5; injection h5 with h5; rw [h3, h5]; exact h6
    ·rcases hNR4.v with h5 | ⟨bb, off, h5, h6, _⟩
     ·exact absurd (by simpa using h5) h4
     ·rw [h2] at h5; injection h5 with h5; rw [h3, h5]; exact h6
    ·omega
    ·omega
    ·omega
    ·omega
   ·rcases hk with hk | rfl | rfl | rfl | rfl
    ·exact hTW.lt k hk
    ·exact ltW.1
    ·exact ltW.2.1
    ·exact ltW.2.2.1
    ·exact ltW.2.2.2
  have hJ4 : J [] C w4 := hJ _ _ _ _ h0 (.of_frm fg4 fun k hk e => hCG k hk (.inl (e ▸ hgF)));obtain ⟨z0, z1, z2, z3⟩ := cells4 X4;have HU := Hd hU;have HT4 := Hd hT4;have HNR := Hd hNR4;have HX4 := Hd X4;have HY4 := Hd Y4;have HB4 := Hd hb4;have HHH := Hd hH;have HJ4 := Hd hJ4
  have HCB : Hid ((∀ x, ac = some x → y + 1 ≤ x.block) ∧ (∀ x, ak = some x → y + 1 ≤ x.block) ∧ (∀ x, av = some x → y + 1 ≤ x.block)) := Hd (by
   have hw1 : W1.heap.size = y + 1 := by rw [← hW1, ← hy]; simp
   exact ⟨fun x hx => by have := q3 x hx; omega, fun x hx => by have := q1 x hx; omega, fun x hx => by have := q2 x hx; omega⟩)
  have hU0F : ∀ k, F k → k < y := fun k hk => by rw [← hy]; exact hTW.lt k hk
  have hlt0J := hlt;clear hU hT4 hNR4 hNR3 q1 q2 q3 X3 X4 Y1 Y3 Y4 fg3 fg4 hb3 hb4 hH hT3 b4 lt3 n0 n1 n2 n3 ck3 hJ4 hW1 bW1
  rcases HSC.out with ⟨hlf, hVK, hSE⟩ | ⟨hlf, h', Q, hh', hQC, hQL, hQs, hSE, hPQ⟩
  ·clear ih
   have HSE := Hd hSE;have HVK := Hd hVK;clear hSE hVK;go_wp2_with fail
   go_loopw [10] (fun ii wr => ∃ (m : Nat) (C1 : Nat → Prop), ii = .int .i64 (m : Int) ∧ i ≤ m ∧ m ≤ M.K.length ∧ Hid (Under W C (FF F b0 b1 b2 b3) H w4 C1 wr) ∧ Hid (TS wr d s g dk st (r + 1) F) ∧ Hid (J (((M.K.zip M.V).take m).drop i) C1 wr)) (fun ii _ => M.K.length - (intOf ii).toNat)
   case atStart => exact ⟨i, C, rfl, Nat.le_refl _, hiK, HU, HT4, Hd (by rw [List.drop_eq_nil_of_le (by rw [List.length_take]; omega)]; exact HJ4.out)⟩
   case round =>
    obtain ⟨m, C1, rfl, him, hmK, HUr, HTr, HJr⟩ := hrel;have HHN : Hid (H nb) := Hd (by rw [HHH.out]; exact .inr (.inl rfl));have HHY : Hid (H y) := Hd (by rw [HHH.out]; exact .inl rfl);obtain ⟨n0, n1, n2, n3⟩ := cells4 ((HUr.out.hk nb HHN.out).2.trans HX4.out)
    by_cases hlt : m < M.K.length
    ·have hli : (m : Int) < (M.K.length : Int) := by omega
     have hlj : (m : Int) < (M.V.length : Int) := by rw [HVK.out]; omega
     obtain ⟨kb, ko, hak, hkl, hkc⟩ := HNR.out.k.at m (by rw [List.length_map]; exact hlt);obtain ⟨vb, vo, hav, hvl, hvc⟩ := HNR.out.v.at m (by rw [List.length_map, HVK.out]; exact hlt);have hKm : (M.K.map ukey)[m]'(by rw [List.length_map]; exact hlt) = .int .u64 (M.K[m]) := by rw [List.getElem_map]; rfl
     have hVm : (M.V.map Value.string)[m]'(by rw [List.length_map, HVK.out]; exact hlt) = .string (M.V[m]'(by rw [HVK.out]; exact hlt)) := by rw [List.getElem_map]
     rw [hKm] at hkc;rw [hVm] at hvc;obtain ⟨kk, hkk⟩ : ∃ kk, M.K[m] = kk := ⟨_, rfl⟩
     obtain ⟨vv, hvv⟩ : ∃ vv, M.V[m]'(by rw [HVK.out]; exact hlt) = vv := ⟨_, rfl⟩
     rw [hkk] at hkc;rw [hvv] at hvc
     have hZ : (M.K.zip M.V)[m]? = some (kk, vv) := by
      rw [List.getElem?_zip_eq_some];exact ⟨by rw [← hkk]; exact List.getElem?_eq_getElem hlt, by rw [← hvv]; exact List.getElem?_eq_getElem _⟩
     have HZ := Hd hZ;have HHK : Hid (H kb ∧ w4.cell? ⟨kb, ko + m, none⟩ = some (.int .u64 kk)) := Hd ⟨by rw [HHH.out]; exact .inr (.inr (.inr (.inl ⟨_, hak, rfl, fun e => by rw [e] at hlt; exact absurd hlt (Nat.not_lt_zero _)⟩))), hkc⟩;have HHV : Hid (H vb ∧ w4.cell? ⟨vb, vo + m, none⟩ = some (.string vv)) := Hd ⟨by rw [HHH.out]; exact .inr (.inr (.inr (.inr (.inl ⟨_, hav, rfl, fun e => by have := HVK.out; rw [e] at this; rw [← this] at hlt; exact absurd hlt (Nat.not_lt_zero _)⟩)))), hvc⟩;have HLT := Hd hlt;subst hak hav;clear hKm hVm hkc hvc hkk hvv hZ hkl hvl hlt;go_upto_region 9 with fail
     obtain ⟨wd, hwd⟩ : ∃ wd, wr.drew = wd := ⟨_, rfl⟩
     have bd : Below wr.heap.size wr wd := by rw [← hwd]; exact Br.drew
     have Ud : Under W C (FF F b0 b1 b2 b3) H w4 C1 wd := HUr.out.step (D := fun _ => False) (Frm.of_below bd) fun _ h => h.elim
     have HUd := Hd Ud;have HTd := Hd (HTr.out.below bd);have hSd : (fun w' : World => ∀ k, H k → w'.heap[k]? = w4.heap[k]?) wd := fun k hk => (Ud.hk k hk).2
     have hJd : J (((M.K.zip M.V).take m).drop i) C1 wd := hJ _ _ _ _ HJr.out (.of_frm (G := fun _ => False) (Frm.of_below bd) fun _ _ h => h);obtain ⟨fn2, tmps2, assign2, body2, hyl, hRR⟩ := hR _ (kk, vv) C1 wd (by rw [← zd_step him HZ.out, HSE.out]; exact zd_pre _ _ _) hJd;have HYL := Hd hyl;have HRR := Hd hRR;clear hyl hRR hJd Ud HUr HTr HJr;refine (wpIn_wide (n := 0)).1 (wpIn_mono (Q := noPan _) (regionY (S := fun w' : World => ∀ k, H k → w'.heap[k]? = w4.heap[k]?) (by kernel_rfl) ?_) of_noPan);rw [hwd];clear hwd bd
     refine takeY (i := 0) 43 (v := ?v43) rfl rfl (by kernel_rfl) (by kernel_rfl) (by kernel_rfl) (fun _ _ _ h => h) hSd (by rfl) ?h43 ?r43
     case h43 =>
      intro w9 s9;have y9 := (box1 ((s9 y HHY.out).trans HY4.out)).1;clear s9;go_simp;try (with_reducible rfl)
     simp only [SL];refine takeY (i := 1) 44 (v := ?v44) rfl rfl (by kernel_rfl) (by kernel_rfl) (by kernel_rfl) (fun _ _ _ h => h) hSd (by rfl) ?h44 ?r44
     case h44 =>
      intro w9 s9;clear s9;go_simp;try (with_reducible rfl)
     simp only [SL];refine takeY (i := 2) 45 (v := ?v45) rfl rfl (by kernel_rfl) (by kernel_rfl) (by kernel_rfl) (fun _ _ _ h => h) hSd (by rfl) ?h45 ?r45
     case h45 =>
      intro w9 s9;obtain ⟨x0, x1, x2, x3⟩ := cells4 ((s9 nb HHN.out).trans HX4.out);clear s9;go_simp;try (with_reducible rfl)
     simp only [SL];refine takeY (i := 3) 46 (v := ?v46) rfl rfl (by kernel_rfl) (by kernel_rfl) (by kernel_rfl) (fun _ _ _ h => h) hSd (by rfl) ?h46 ?r46
     case h46 =>
      intro w9 s9;clear s9;go_simp;try (with_reducible rfl)
     simp only [SL];refine takeY (i := 4) 47 (v := ?v47) rfl rfl (by kernel_rfl) (by kernel_rfl) (by kernel_rfl) (fun _ _ _ h => h) hSd (by rfl) ?h47 ?r47
     case h47 =>
      intro w9 s9;clear s9;go_simp;try (with_reducible rfl)
     simp only [SL];refine takeY (i := 5) 48 (v := ?v48) rfl rfl (by kernel_rfl) (by kernel_rfl) (by kernel_rfl) (fun _ _ _ h => h) hSd (by rfl) ?h48 ?r48
     case h48 =>
      intro w9 s9;have k9 := (cell_as (i := ko + m) (s9 kb HHK.out.1)).trans HHK.out.2;clear s9;go_simp;try (with_reducible rfl)
     simp only [SL];refine takeY (i := 6) 49 (v := ?v49) rfl rfl (by kernel_rfl) (by kernel_rfl) (by kernel_rfl) (fun _ _ _ h => h) hSd (by rfl) ?h49 ?r49
     case h49 =>
      intro w9 s9;clear s9;go_simp;try (with_reducible rfl)
     simp only [SL];refine takeY (i := 7) 50 (v := ?v50) rfl rfl (by kernel_rfl) (by kernel_rfl) (by kernel_rfl) (fun _ _ _ h => h) hSd (by rfl) ?h50 ?r50
     case h50 =>
      intro w9 s9;obtain ⟨x0, x1, x2, x3⟩ := cells4 ((s9 nb HHN.out).trans HX4.out);clear s9;go_simp;try (with_reducible rfl)
     simp only [SL];refine takeY (i := 8) 51 (v := ?v51) rfl rfl (by kernel_rfl) (by kernel_rfl) (by kernel_rfl) (fun _ _ _ h => h) hSd (by rfl) ?h51 ?r51
     case h51 =>
      intro w9 s9;clear s9;go_simp;try (with_reducible rfl)
     simp only [SL];refine takeY (i := 9) 52 (v := ?v52) rfl rfl (by kernel_rfl) (by kernel_rfl) (by kernel_rfl) (fun _ _ _ h => h) hSd (by rfl) ?h52 ?r52
     case h52 =>
      intro w9 s9;clear s9;go_simp;try (with_reducible rfl)
     simp only [SL];refine takeY (i := 10) 53 (v := ?v53) rfl rfl (by kernel_rfl) (by kernel_rfl) (by kernel_rfl) (fun _ _ _ h => h) hSd (by rfl) ?h53 ?r53
     case h53 =>
      intro w9 s9;have k9 := (cell_as (i := vo + m) (s9 vb HHV.out.1)).trans HHV.out.2;clear s9;go_simp;try (with_reducible rfl)
     simp only [SL];refine takeY (i := 11) 54 (v := ?v54) rfl rfl (by kernel_rfl) (by kernel_rfl) (by kernel_rfl) (fun _ _ _ h => h) hSd (by rfl) ?h54 ?r54
     case h54 =>
      intro w9 s9;clear s9;go_simp;try (with_reducible rfl)
     simp only [SL];refine stepY (i := 12) rfl (by kernel_rfl) (by rfl) (fun K hK => ?_);have HK := Hd hK;clear hK;have hyl := HYL.out;unfold encE at hyl;go_simp;refine ⟨rfl, HRR.out.mono ?_⟩;rintro e w8 ⟨C8, ho8, (⟨rfl, hj8⟩ | ⟨rfl, hj8⟩)⟩
     ·have U8 := HUd.out.round ho8
      have T8 := HTd.out.round ho8 fun k hk hf => HUd.out.cg k hk (.inl hf)
      rw [← zd_step him HZ.out] at hj8;have HU8 := Hd U8;have HT8 := Hd T8;have HJ8 := Hd hj8;refine HK.out _ _ (fun k hk => (U8.hk k hk).2) ?_;clear HK K hyl HYL HRR hSd HUd HTd U8 T8 ho8 hj8;try simp only [Act.put, SL]
      refine stepY (i := 13) rfl (by kernel_rfl) (by rfl) (fun K hK => ?_);have HK := Hd hK;clear hK;go_simp;refine HK.out _ _ (fun k hk => (HU8.out.hk k hk).2) ?_;clear HK K;try simp only [Act.put, SL]
      refine doneY (by kernel_rfl) ?_ _;simp only [noPan];have e4 : IntKind.i64.wrap ((m : Int) + 1) = ((m + 1 : Nat) : Int) := by rw [show (m : Int) + 1 = ((m + 1 : Nat) : Int) by omega]; exact IntWalk.i64_in _ (by have h2 := HNR.out.k2; have h3 := HNR.out.k3; have := HLT.out; unfold maxLen at h3; omega)
      go_wp2_with fail;refine ⟨⟨m + 1, C8, rfl, by omega, HLT.out, HU8, HT8, HJ8⟩, ?_⟩;have := HLT.out;simp [intOf];omega
     ·have U8 := HUd.out.round ho8
      have T8 := HTd.out.round ho8 fun k hk hf => HUd.out.cg k hk (.inl hf)
      rw [← zd_step him HZ.out] at hj8;have HU8 := Hd U8;have HT8 := Hd T8;have HJ8 := Hd hj8;refine HK.out _ _ (fun k hk => (U8.hk k hk).2) ?_;clear HK K hyl HYL HRR hSd HUd HTd U8 T8 ho8 hj8;try simp only [Act.put, SL]
      refine stepY (i := 13) rfl (by kernel_rfl) (by rfl) (fun K hK => ?_);have HK := Hd hK;clear hK;go_simp;refine HK.out _ _ (fun k hk => (HU8.out.hk k hk).2) ?_;clear HK K;try simp only [Act.put, SL]
      refine doneY (by kernel_rfl) ?_ _;simp only [noPan];go_wp2_with fail;exact endB (P := Tryz.prog) rfl (fun k hk => .inl hk) hJ hJx HU8.out HT8.out (by omega) (by simp) [] (Marks.nil _) (fun D hD => by cases hD) (.inr ⟨_, by rw [HSE.out]; exact zd_pre _ _ _, HJ8.out⟩) rfl
    ·obtain rfl : m = M.K.length := by omega
     have hli : ¬ ((M.K.length : Nat) : Int) < (M.K.length : Int) := by omega
     go_wp2_with fail;refine endB (P := Tryz.prog) rfl (fun k hk => .inl hk) hJ hJx HUr.out HTr.out (by omega) (by simp) [] (Marks.nil _) (fun D hD => by cases hD) (.inl ?_) hy;rw [HSE.out];have := HJr.out;rwa [List.take_of_length_le (by rw [List.length_zip, HVK.out]; omega)] at this
  ·subst hPQ
   obtain ⟨Qd, hQd⟩ : ∃ Qd, Q.drop i = Qd := ⟨_, rfl⟩
   have hDL : Qd.length = Q.length - i := by rw [← hQd, List.length_drop]
   have hCL : M.C.length = Q.length := by rw [hQC, kP_length]
   obtain ⟨cb, off, hac, hcbl, hX⟩ := HNR.out.c.at 0 (by rw [List.length_map]; omega);clear hX;obtain ⟨cD, hcD⟩ : ∃ cD, cc - i = cD := ⟨_, rfl⟩
   have hsl : ∀ w : World, (Instr.slice 22 (.slice (some ⟨cb, off, none⟩) M.C.length cc) (some (.int .i64 (i : Int))) none none).run Tryz.prog w = .ok (.slice (some ⟨cb, off + i, none⟩) Qd.length cD) w := fun w => by
    have hi1 : (i : Int) ≤ (M.C.length : Int) := by omega
    have hi0 : (0 : Int) ≤ (i : Int) := Int.natCast_nonneg i;have hcc : ¬ cc = i := by have := HNR.out.c2; omega
    have e1 : M.C.length - i = Qd.length := by omega
    clear hQC hQd hDL hCL hQL hQs hSE ih;go_simp;try simp [e1]
   have HSL := Hd hsl;have HQL := Hd (And.intro hDL hQL);have HQC := Hd (And.intro hQC (And.intro hCL hQd));have HQS := Hd hQs;have HSE := Hd hSE;subst hac;clear hQs hSE hQL hDL hcbl hQC hCL hQd HSC HNT;go_wp2_with fail;have HHY : Hid (H y) := Hd (by rw [HHH.out]; exact .inl rfl)
   have HHC : Hid (H cb ∧ ∀ j, j < M.C.length → w4.cell? ⟨cb, off + j, none⟩ = some ((M.C.map ikid).getD j undef)) := Hd (by
    have hne : M.C ≠ [] := fun e => by have h1 := HQC.out.2.1; have h2 := HQL.out.2; rw [e] at h1; simp at h1; omega
    refine ⟨by rw [HHH.out]; exact .inr (.inr (.inl ⟨_, rfl, rfl, hne⟩)), fun j hj => ?_⟩;obtain ⟨cb', off', e1, e2, e3⟩ := HNR.out.c.at j (by rw [List.length_map]; exact hj);injection e1 with e1;injection e1 with e1 e4;subst e1 e4;rw [e3, List.getD_eq_getElem?_getD, List.getElem?_eq_getElem (by rw [List.length_map]; exact hj)]
    rfl)
   refine wp_loop (fun a wr => ∃ (m : Nat) (C1 : Nat → Prop) (r1 : Nat) (Ds : List Nat) (u12 u13 u63 u64 u65 u66 u67 u68 u69 u70 u71 u72 u73 u74 u75 u76 u77 u78 u79 u80 u81 u82 : Value), m ≤ Qd.length ∧ a = { tmps := #[.func (.yield l) #[] #[], .pointer (some ⟨b0, 0, none⟩), .pointer (some ⟨b1, 0, none⟩), .pointer (some ⟨b2, 0, none⟩), .pointer (some ⟨b3, 0, none⟩), .pointer (some ⟨y, 0, none⟩), .pointer (some ⟨nb, 0, none⟩), .int .i64 0, .int .i64 (i : Int), .bool fd, undef, undef, u12, u13, .tuple #[.agg #[.bool false, .slice ak M.K.length ck, .slice av M.V.length cv, .slice (some ⟨cb, off, none⟩) M.C.length cc], .int .i64 0], .pointer (some ⟨g, 0, none⟩), .int .i64 p, .int .i64 dp, .tuple #[.agg #[.bool false, .slice ak M.K.length ck, .slice av M.V.length cv, .slice (some ⟨cb, off, none⟩) M.C.length cc], .int .i64 0], .agg #[.bool false, .slice ak M.K.length ck, .slice av M.V.length cv, .slice (some ⟨cb, off, none⟩) M.C.length cc], .int .i64 0, .int .i64 0, .bool false, undef, undef, undef, undef, .tuple #[.int .i64 (i : Int), .bool fd], .agg #[.bool false, .slice ak M.K.length ck, .slice av M.V.length cv, .slice (some ⟨cb, off, none⟩) M.C.length cc], .int .u64 key, .tuple #[.int .i64 (i : Int), .bool fd], .int .i64 (i : Int), .bool fd, .pointer (some ⟨nb, 0, none⟩), .bool false, undef, undef, undef, undef, undef, undef, undef, undef, undef, undef, undef, undef, undef, undef, undef, undef, undef, undef, undef, undef, undef, undef, .pointer (some ⟨nb, 3, none⟩), .slice (some ⟨cb, off, none⟩) M.C.length cc, .int .i64 (i : Int), .slice (some ⟨cb, off + i, none⟩) Qd.length cD, .int .i64 (Qd.length : Int), .int .i64 (m : Int), u63, u64, u65, u66, u67, u68, u69, u70, u71, u72, u73, u74, u75, u76, u77, u78, u79, u80, u81, u82], defers := Ds.map mkD } ∧ Hid (Under W C (FF F b0 b1 b2 b3) H w4 C1 wr) ∧ Hid (TS wr d s g dk st r1 F) ∧ Hid (r + 1 ≤ r1 ∧ r1 ≤ r + 1 + (kPs (Qd.take m)).length) ∧ Hid (J (scQ key (Qd.take m)) C1 wr) ∧ Hid (Marks wr Ds ∧ ∀ D ∈ Ds, w4.heap.size ≤ D ∧ ¬ C1 D)) (fun a _ => Qd.length - (intOf (a.tmps.getD 62 undef)).toNat) ?_ ?_
   ·exact ⟨0, C, r + 1, [], _, _, _, _, _, _, _, _, _, _, _, _, _, _, _, _, _, _, _, _, _, _, Nat.zero_le _, rfl, HU, HT4, Hd (by simp), Hd (by simpa [scQ] using HJ4.out), Hd ⟨Marks.nil _, fun D hD => by cases hD⟩⟩
   ·clear HU HT4 HJ4
    rintro a wr ⟨m, C1, r1, Ds, u12, u13, u63, u64, u65, u66, u67, u68, u69, u70, u71, u72, u73, u74, u75, u76, u77, u78, u79, u80, u81, u82, hm, rfl, HUr, HTr, HRr, HJr, HMr⟩
    by_cases hlt : m < Qd.length
    ·have hli : (m : Int) < (Qd.length : Int) := by omega
     obtain ⟨q, hq⟩ : ∃ q, Qd[m]? = some q := ⟨_, List.getElem?_eq_getElem hlt⟩
     have hqQ : Q[i + m]? = some q := by rw [← HQC.out.2.2, List.getElem?_drop] at hq; exact hq
     obtain ⟨hIT, hSM⟩ := HQS.out q (List.mem_of_getElem? hqQ);obtain ⟨hk1, hk2⟩ := kPs_at hq;obtain ⟨hx1, hx2⟩ := scQ_at (key := key) hq;have hcell := HHC.out.2 (i + m) (by have h1 := HQL.out.1; have h2 := HQC.out.2.1; omega)
     have hcv : (M.C.map ikid).getD (i + m) undef = .int .i64 q.p := by
      rw [HQC.out.1, kP, List.map_map, List.getD_eq_getElem?_getD, List.getElem?_map, hqQ]
      rfl
     rw [hcv] at hcell;have hcr := (cell_as (i := off + (i + m)) (HUr.out.hk cb HHC.out.1).2).trans hcell;rw [← Nat.add_assoc] at hcr;have hbr : BoxF wr g p dp key b0 b1 b2 b3 := HB4.out.kept (HUr.out.hk b0 (by rw [HHH.out]; exact .inr (.inr (.inr (.inr (.inr (.inl rfl))))))).2 (HUr.out.hk b1 (by rw [HHH.out]; exact .inr (.inr (.inr (.inr (.inr (.inr (.inl rfl)))))))).2 (HUr.out.hk b2 (by rw [HHH.out]; exact .inr (.inr (.inr (.inr (.inr (.inr (.inr (.inl rfl))))))))).2 (HUr.out.hk b3 (by rw [HHH.out]; exact .inr (.inr (.inr (.inr (.inr (.inr (.inr (.inr rfl))))))))).2
     have hyr := (HUr.out.hk y HHY.out).2.trans HY4.out;have v0 := (box1 hbr.v).1;have v2 := (box1 hbr.d).1;have v3 := (box1 hbr.k).1;have e1 : IntKind.i64.wrap (dp + 1) = dp + 1 := IntWalk.i64_in _ (by omega);have HIT := Hd (And.intro hIT hSM);have HK1 := Hd (And.intro hk1 hk2);have HX1 := Hd (And.intro hx1 hx2);have HBR := Hd hbr;have HYR := Hd hyr;have HML := Hd hlt;clear hIT hSM hk1 hk2 hx1 hx2 hcv hcell hbr hyr hlt hqQ;go_wp2_with fail;refine (from_is wr g q.p (dp + 1) key).mono ?_;rintro e w6 ⟨rfl, hbx, b6, s6⟩;obtain ⟨bk, hbk⟩ : ∃ bk, wr.heap.size = bk := ⟨_, rfl⟩
     rw [hbk] at hbx b6 s6 ⊢;go_wp2_with fail;have hTr := HTr.out;have hUr := HUr.out;have hT6 := hTr.below (by rw [hbk]; exact b6);have hFlt := hTr.lt;have hq0 : (kPs (Qd.take m)).length + (q.P.length + (kPs (Qd.drop (m + 1))).length) = (kPs Qd).length := by rw [HK1.out.1, List.length_append, List.length_append]
     have hq1 : (kPs Qd).length ≤ (kPs Q).length := by rw [← HQC.out.2.2]; exact kPs_drop Q i
     have hit := ih h' hh' w6 d s g dk st r1 F hT6 hu q.p q.F q.P HIT.out.1 HIT.out.2 (dp + 1) (by omega) (by omega) (by have := HRr.out; simp only [List.length_cons] at hr; omega) bk (bk + 1) (bk + 2) (bk + 3) hbx ⟨fun h => by have := hFlt _ h; omega, fun h => by have := hFlt _ h; omega, fun h => by have := hFlt _ h; omega, fun h => by have := hFlt _ h; omega⟩;have hHyF : H y := HHY.out
     have hFH : ∀ k, F k → ¬ H k := fun k hk hh => by
      have hkW := hU0F k hk;rw [HHH.out] at hh
      rcases hh with rfl | rfl | ⟨x, h2, h3, _⟩ | ⟨x, h2, h3, _⟩ | ⟨x, h2, h3, _⟩ | rfl | rfl | rfl | rfl
      ·omega
      ·have := H23.out.2; omega
      ·have := HCB.out.1 _ h2; omega
      ·have := HCB.out.2.1 _ h2; omega
      ·have := HCB.out.2.2 _ h2; omega
      ·exact hbF.1 hk
      ·exact hbF.2.1 hk
      ·exact hbF.2.2.1 hk
      ·exact hbF.2.2.2 hk
     have hy6 : w6.heap[y]? = some (.cells #[.func (.yield l) #[] #[]] 158) := (b6.block y (by rw [← hbk]; exact (Array.getElem?_eq_some_iff.1 HYR.out).1)).trans HYR.out;have hCbk : ∀ k, C1 k → k < bk := fun k hk => by rw [← hbk]; exact hlt _ _ _ HJr.out k hk
     have hyW : y < bk := by rw [← hbk]; exact (Array.getElem?_eq_some_iff.1 HYR.out).1
     have hJ6 : J (scQ key (Qd.take m)) C1 w6 := hJ _ _ _ _ HJr.out (.of_frm (G := fun _ => False) (Frm.of_below (by rw [hbk]; exact b6)) fun _ _ h => h)
     have AFT : ∀ (D : Nat) (C' C2 : Nat → Prop) (Wz : World), w6.heap.size ≤ D → (∀ k, C' k ↔ C2 k ∨ k = y) → Wz.heap[y]? = some (.cells #[.func (.yield l) #[] #[]] 158) → ¬ C2 y → Frm (fun k => (C1 k ∨ k = y) ∨ FF F bk (bk + 1) (bk + 2) (bk + 3) k) w6 Wz → (∀ k, C' k → (C1 k ∨ k = y) ∨ w6.heap.size ≤ k) → ¬ C' D → Wz.heap[D]? = some (.deferred (some [])) → Under W C (FF F b0 b1 b2 b3) H w4 C2 Wz ∧ (Marks Wz (D :: Ds) ∧ ∀ D' ∈ D :: Ds, w4.heap.size ≤ D' ∧ ¬ C2 D') := by
      intro D C' C2 Wz hDz hDi hy2 hn2 hfr hC' hnD hdef;have hnH : ∀ j, bk ≤ j → ¬ H j := fun j hj hh => by have := (hUr.hk _ hh).1; have := hUr.sz; omega
      have U2 := hUr.after (C' := C2) (by rw [hbk]; exact b6) hfr (fun k hk => by
       rcases hk with hk | rfl | rfl | rfl | rfl
       ·exact ⟨.inl (.inl hk), hFH k hk⟩
       ·exact ⟨.inr (by omega), hnH _ (by omega)⟩
       ·exact ⟨.inr (by omega), hnH _ (by omega)⟩
       ·exact ⟨.inr (by omega), hnH _ (by omega)⟩
       ·exact ⟨.inr (by omega), hnH _ (by omega)⟩) (hy2.trans HY4.out.symm) (by omega) (fun k hk => by
       rcases hC' k ((hDi k).2 (.inl hk)) with (h1 | h1) | h1
       ·exact .inl h1
       ·exact absurd (h1 ▸ hk) hn2
       ·exact .inr (by omega))
      have hfz := hfr.size
      have hM2 : Marks Wz (D :: Ds) ∧ ∀ D' ∈ D :: Ds, w4.heap.size ≤ D' ∧ ¬ C2 D' := by
       have hsz := hUr.sz;refine ⟨(HMr.out.1.on fun D' hD' => ?_).cons (fun hm' => ?_) hdef, fun D' hD' => ?_⟩
       ·have hl := HMr.out.1.lt D' hD'
        rw [hfr.block D' (by omega) (fun hx => by
         rcases hx with (hx | rfl) | hx | rfl | rfl | rfl | rfl
         ·exact (HMr.out.2 D' hD').2 hx
         ·have := (HMr.out.2 _ hD').1; have := (hUr.hk _ hHyF).1; omega
         ·have := hU0F _ hx; have := (HMr.out.2 _ hD').1; have := (hUr.hk _ hHyF).1; omega
         ·omega
         ·omega
         ·omega
         ·omega), b6.block D' (by omega)]
       ·have := HMr.out.1.lt D hm'; omega
       ·rcases List.mem_cons.1 hD' with rfl | hD'
        ·exact ⟨by omega, fun hx => hnD ((hDi _).2 (.inl hx))⟩
        ·refine ⟨(HMr.out.2 D' hD').1, fun hx => ?_⟩
         have hl := HMr.out.1.lt D' hD'
         rcases hC' D' ((hDi D').2 (.inl hx)) with (h1 | h1) | h1
         ·exact (HMr.out.2 D' hD').2 h1
         ·exact hn2 (h1 ▸ hx)
         ·omega
      exact ⟨U2, hM2⟩
     refine (wpIn_wide (n := 0)).1 (rangeK rfl (enters_of Tryz.func90 (by kernel_rfl) rfl) hit (fun Wz lz o hz hv => ?_) (fun k hk => ?_) (by intro _; rfl) (fun k => C1 k ∨ k = y) (fun k hk hg => ?_) (IA J (scQ key (Qd.take m)) y (.cells #[.func (.yield l) #[] #[]] 158)) (fun c pre D Wz => c = .ret ∧ IA Jx (scQ key (Qd.take m)) y (.cells #[.func (.yield l) #[] #[]] 158) pre D Wz) (IA.on hJ) (fun c s D A B hh ho => ⟨hh.1, IA.on hJx s D A B hh.2 ho⟩) (IA.lt hlt0J) (fun c s D A hh => IA.lt hltx s D A hh.2) ⟨C1, fun _ => Iff.rfl, by rw [List.append_nil]; exact hJ6, hy6, fun e => hUr.ch y e hHyF⟩ ?_ ?_ ?_)
     ·obtain ⟨r', g1, g2, g3⟩ := hv
      exact ⟨r', g1, g2, g3.frm (putObj_frm Wz lz o) fun k hk e => by have := hT6.lt k hk; omega⟩
     ·rcases hk with hk | rfl | rfl | rfl | rfl
      ·exact hT6.lt k hk
      ·omega
      ·omega
      ·omega
      ·omega
     ·rcases hk with hk | rfl
      ·rcases hg with hg | rfl | rfl | rfl | rfl
       ·exact hUr.cg k hk (.inl hg)
       ·have := hCbk _ hk; omega
       ·have := hCbk _ hk; omega
       ·have := hCbk _ hk; omega
       ·have := hCbk _ hk; omega
      ·rcases hg with hg | rfl | rfl | rfl | rfl
       ·exact hFH _ hg hHyF
       ·omega
       ·omega
       ·omega
       ·omega
     ·intro l' pre x D Wz hpre hI hD hz hnl hll
      have bE := below_made Wz (.cells #[.int .u64 x.1, .string x.2] 50);have nE := heap_alloc_new Wz (.cells #[.int .u64 x.1, .string x.2] 50);obtain ⟨Wa, hWa⟩ : ∃ Wa, Wz.alloc (.cells #[.int .u64 x.1, .string x.2] 50) = Wa := ⟨_, rfl⟩
      rw [hWa] at bE nE;unfold encE;gi_wp2;try rw [hWa]
      refine ⟨bE, fun Wb hfb hIb => ?_⟩;obtain ⟨C2, hDi, hjb, hyb, hnb⟩ := hIb
      obtain ⟨fn2, tmps2, assign2, body2, hyl2, hRR2⟩ := hR (scQ key (Qd.take m) ++ pre) x C2 Wb (by
       rw [HSE.out, HQC.out.2.2, HX1.out.1, List.append_assoc];exact (List.prefix_append_right_inj _).2 (hpre.trans (List.prefix_append _ _))) hjb
      have cyb := (box1 hyb).1;have eb : Wb.heap[Wz.heap.size]? = some (.cells #[.int .u64 x.1, .string x.2] 50) := (hfb.block _ (Array.getElem?_eq_some_iff.1 nE).1 (by omega)).trans nE;obtain ⟨eb0, eb1⟩ := cellsE eb;unfold encE at hyl2;gi_wp2;refine ⟨rfl, ?_⟩;refine hRR2.mono ?_;rintro e w8 ⟨C8, ho8, (⟨rfl, hj8⟩ | ⟨rfl, hj8⟩)⟩
      ·gi_wp2
       exact IA.next hDi hyb hnb ho8 hj8
      ·gi_wp2
       obtain ⟨D', hD1, hD2⟩ := IA.next (J' := Jx) hDi hyb hnb ho8 hj8;exact ⟨D', hD1, rfl, hD2⟩
     ·intro D C' Wz hDz hI hV hfr hC' hnD hdef
      obtain ⟨C2, hDi, hj2, hy2, hn2⟩ := hI;obtain ⟨r', g1, g2, hT'⟩ := hV;obtain ⟨U2, hM2⟩ := AFT D C' C2 Wz hDz hDi hy2 hn2 hfr hC' hnD hdef;have hbz : BoxF Wz g p dp key b0 b1 b2 b3 := HB4.out.kept (U2.hk b0 (by rw [HHH.out]; exact .inr (.inr (.inr (.inr (.inr (.inl rfl))))))).2 (U2.hk b1 (by rw [HHH.out]; exact .inr (.inr (.inr (.inr (.inr (.inr (.inl rfl)))))))).2 (U2.hk b2 (by rw [HHH.out]; exact .inr (.inr (.inr (.inr (.inr (.inr (.inr (.inl rfl))))))))).2 (U2.hk b3 (by rw [HHH.out]; exact .inr (.inr (.inr (.inr (.inr (.inr (.inr (.inr rfl))))))))).2;have z0 := (box1 hbz.v).1
      have z2 : Wz.cell? ⟨g, 2, none⟩ = some (.int .i64 0) := by
       obtain ⟨FD, FS, hi, _⟩ := hT';exact (vis_cells hi.v).2.2.1
      have HU2 := Hd U2;have HT2 := Hd hT';have HM2 := Hd hM2;have HJ2 : Hid (J (scQ key (Qd.take (m + 1))) C2 Wz) := Hd (by rw [HX1.out.2]; exact hj2);have HR2 : Hid (r + 1 ≤ r' ∧ r' ≤ r + 1 + (kPs (Qd.take (m + 1))).length) := Hd (by have := HRr.out; rw [HK1.out.2, List.length_append]; omega);have e4 : IntKind.i64.wrap ((m : Int) + 1) = ((m + 1 : Nat) : Int) := by rw [show (m : Int) + 1 = ((m + 1 : Nat) : Int) by omega]; exact IntWalk.i64_in _ (by have h2 := HNR.out.c2; have h3 := HNR.out.c3; have := HML.out; have h4 := HQL.out.1; have h5 := HQC.out.2.1; unfold maxLen at h3; omega)
      clear U2 hT' hM2 hbz hj2 hit hFH hCbk hJ6 hy6 hfr hC' hDi;go_wp2_with fail;refine ⟨⟨m + 1, C2, r', D :: Ds, _, _, _, _, _, _, _, _, _, _, _, _, _, _, _, _, _, _, _, _, _, _, HML.out, rfl, HU2, HT2, HR2, HJ2, HM2⟩, ?_⟩;have := HML.out;simp [intOf];omega
     ·rintro D c pre C' Wz hDz hpre ⟨rfl, hI⟩ hV hfr hC' hnD hdef
      obtain ⟨C2, hDi, hj2, hy2, hn2⟩ := hI;obtain ⟨r', g1, g2, hT'⟩ := hV;obtain ⟨U2, hM2⟩ := AFT D C' C2 Wz hDz hDi hy2 hn2 hfr hC' hnD hdef;refine wpIn_wide.2 ?_;go_wp2_with fail;refine endB (P := Tryz.prog) rfl (fun k hk => .inl hk) hJ hJx U2 hT' (by have := HRr.out; omega) (by have := HRr.out; show r' ≤ r + ((kPs Q).length + 1); omega) (D :: Ds) hM2.1 (fun D' hD' => ⟨Nat.le_trans U2.zz (hM2.2 D' hD').1, (hM2.2 D' hD').2⟩) (.inr ⟨scQ key (Qd.take m) ++ pre, ?_, hj2⟩) rfl;rw [HSE.out, HQC.out.2.2, HX1.out.1];exact (List.prefix_append_right_inj _).2 (hpre.trans (List.prefix_append _ _))
    ·obtain rfl : m = Qd.length := by omega
     have hli : ¬ ((Qd.length : Nat) : Int) < (Qd.length : Int) := by omega
     go_wp2_with fail;refine endB (P := Tryz.prog) rfl (fun k hk => .inl hk) hJ hJx HUr.out HTr.out (by have := HRr.out; omega) (by have h1 := HRr.out.2; have h2 := kPs_drop Q i; rw [HQC.out.2.2] at h2; rw [List.take_length] at h1; show r1 ≤ r + ((kPs Q).length + 1); omega) Ds HMr.out.1 (fun D hD => ⟨Nat.le_trans HUr.out.zz (HMr.out.2 D hD).1, (HMr.out.2 D hD).2⟩) (.inl ?_) hy;have := HJr.out;rw [List.take_length] at this;rw [HSE.out, HQC.out.2.2];exact this
attribute [local go_sem] Oper.semAt_some
def rowE (e : Ent) : List Value := [.int .u64 e.1, .string e.2]
def rowsE (L : List Ent) : List Value := (L.map rowE).flatten
theorem rowsE_snoc (L : List Ent) (x : Ent) : rowsE (L ++ [x]) = rowsE L ++ rowE x := by simp [rowsE]
theorem info_entry : ∃ i z, Tryz.prog.info? 50 = some i ∧ i.zero = some z ∧ i.size = 2 ∧ i.bytes = 24 ∧ z.cells.size = 2 := by
 have h : (Tryz.prog.info? 50).bind (fun i => i.zero.map fun z => (i.size, i.bytes, z.cells.size)) = some (2, 24, 2) := by kernel_rfl
 cases hq : Tryz.prog.info? 50 with
 | none => rw [hq] at h; cases h
 | some i =>
  rw [hq] at h
  cases hz : i.zero with
  | none => simp [hz] at h
  | some z => simp [hz] at h; exact ⟨i, z, rfl, hz, h.1, h.2.1, h.2.2⟩
def ScI (lb mb : Nat) (most : Int) (pre : List Ent) (C : Nat → Prop) (W : World) : Prop :=
 ∃ v, W.heap[lb]? = some (.cells #[v] 43) ∧ W.heap[mb]? = some (.cells #[.int .i64 most] 3) ∧ W.ownsRow (lb + 1) 50 2 v pre.length (rowsE pre) ∧ ∀ k, C k ↔ k = lb ∨ k = mb ∨ v.ownBlock = some k
theorem ScI.on {lb mb : Nat} {most : Int} {pre : List Ent} {C : Nat → Prop} {A B : World} (h : ScI lb mb most pre C A) (ho : OnC C A B) : ScI lb mb most pre C B := by
 obtain ⟨v, h1, h2, h3, h4⟩ := h;have lt : ∀ {k : Nat} {o : Obj}, A.heap[k]? = some o → k < A.heap.size := fun h => (Array.getElem?_eq_some_iff.1 h).1
 refine ⟨v, (ho.block _ (lt h1) ((h4 _).2 (.inl rfl))).trans h1, (ho.block _ (lt h2) ((h4 _).2 (.inr (.inl rfl)))).trans h2, ⟨h3.1, ?_⟩, h4⟩
 rcases h3.2 with hx | ⟨g, cap, cur, hv, hbg, hh, r⟩
 ·exact .inl hx
 ·exact .inr ⟨g, cap, cur, hv, hbg, (ho.block g (lt hh) ((h4 g).2 (.inr (.inr (by rw [hv]; rfl))))).trans hh, r⟩
theorem ScI.lt {lb mb : Nat} {most : Int} {pre : List Ent} {C : Nat → Prop} {A : World} (h : ScI lb mb most pre C A) (k : Nat) (hk : C k) : k < A.heap.size := by
 obtain ⟨v, h1, h2, h3, h4⟩ := h
 rcases (h4 k).1 hk with rfl | rfl | h5
 ·exact (Array.getElem?_eq_some_iff.1 h1).1
 ·exact (Array.getElem?_eq_some_iff.1 h2).1
 ·exact (h3.lt k h5).2
theorem scanE_len (key : Int) (E : List Ent) : (scanE key E).length ≤ E.length := List.length_filter_le ..
theorem scan_is (w : World) (d s : Nat) (dk : DkS) (st : ShS) (F : Nat → Prop) (h : SD w d s dk st F) (G : Good dk st) (root : Int) (E : List Ent) (ht : TreeI dk st root E) (hE : E.length ≤ 600) (key most : Int) :
  Calls Tryz.prog 19 #[.pointer (some ⟨s, 0, none⟩), .int .i64 root, .int .u64 key, .int .i64 most] w fun e w' => ∃ v, e = .returned (.tuple #[v, .int .i64 0]) ∧ w'.ownsRow w.heap.size 50 2 v ((scanE key E).take most.toNat).length (rowsE ((scanE key E).take most.toNat)) ∧ SD w' d s dk st F ∧ Frm F w w' := by
 by_cases hz : root = 0 ∨ most < 1
 ·have e1 : (scanE key E).take most.toNat = [] := by
   rcases hz with hz | hz
   ·rcases ht with ⟨_, rfl, _⟩ | ⟨hh, F0, P0, hi, hs, rfl, hl⟩
    ·simp [scanE]
    ·obtain ⟨M, PM, m1, _⟩ := hi
     have := (Rn_read m1).1;omega
   ·rw [show most.toNat = 0 by omega]; rfl
  have FIN : Hid (∀ w', Below w.heap.size w w' → w'.ownsRow w.heap.size 50 2 (.slice none 0 0) 0 [] ∧ SD w' d s dk st F ∧ Frm F w w') := Hd (fun w' hb => ⟨World.ownsRow_nil _ _ _ _, h.below hb, Frm.of_below hb⟩);rw [e1]
  have hr : (root == 0) = true ∨ ((root == 0) = false ∧ most < 1) := by
   by_cases h0 : root = 0
   ·exact .inl (by rw [h0]; rfl)
   ·exact .inr ⟨beq_eq_false_iff_ne.2 h0, by omega⟩
  have bA : Hid (Below w.heap.size w (w.alloc (.cells #[.int .i64 most] 3))) := Hd (below_made _ _);clear h G ht hz e1
  rcases hr with hr | ⟨hr, hm⟩
  ·go_enter Tryz.func19, Tryz.ntmps19
   go_wp2_with fail;go_ret2;exact ⟨_, rfl, FIN.out _ bA.out⟩
  ·go_enter Tryz.func19, Tryz.ntmps19
   go_wp2_with fail;go_ret2;exact ⟨_, rfl, FIN.out _ bA.out⟩
 ·rcases ht with ⟨rfl, rfl, _⟩ | ⟨hh, F0, P0, hi, hs, rfl, hl⟩
  ·exact absurd (.inl rfl) hz
  have h9 := hi.low hE;have hP : P0.length ≤ 640 := few_of hl.1 fun x hx => hl.rng G hx
  have h0' : (root == 0) = false := beq_eq_false_iff_ne.2 fun e => hz (.inl e)
  have hm1 : ¬ most < 1 := fun e => hz (.inr e)
  have hu := G.su;obtain ⟨n0, hn0⟩ : ∃ n0, w.heap.size = n0 := ⟨_, rfl⟩
  obtain ⟨x0, hx0⟩ : ∃ x0, w.alloc (.cells #[.int .i64 most] 3) = x0 := ⟨_, rfl⟩
  have b0 := below_made w (.cells #[.int .i64 most] 3);have m0 := heap_alloc_new w (.cells #[.int .i64 most] 3);have z0 : (w.alloc (.cells #[.int .i64 most] 3)).heap.size = n0 + 1 := by simp [hn0]
  rw [hx0, hn0] at b0 m0;rw [hx0] at z0;obtain ⟨x1, hx1⟩ : ∃ x1, x0.alloc (visO s 0) = x1 := ⟨_, rfl⟩
  have b1 := below_made x0 (visO s 0);have T1 := (h.below (by rw [hn0]; exact b0)).visit;have z1 : (x0.alloc (visO s 0)).heap.size = n0 + 2 := by simp [z0]
  rw [hx1, z0] at b1 T1;rw [hx1] at z1;obtain ⟨x2, hx2⟩ : ∃ x2, x1.alloc (.cells #[.slice none 0 0] 43) = x2 := ⟨_, rfl⟩
  have b2 := below_made x1 (.cells #[.slice none 0 0] 43);have l2 := heap_alloc_new x1 (.cells #[.slice none 0 0] 43);have z2 : (x1.alloc (.cells #[.slice none 0 0] 43)).heap.size = n0 + 3 := by simp [z1]
  rw [hx2, z1] at b2 l2;rw [hx2] at z2;have T2 := T1.below (by rw [z1]; exact b2);have m2 : x2.heap[n0]? = some (.cells #[.int .i64 most] 3) := (b2.block _ (by omega)).trans ((b1.block _ (by omega)).trans m0);have bw2 : Below n0 w x2 := (b0.trans (b1.mono (by omega))).trans (b2.mono (by omega));have FI := Hd (from_is x2 (n0 + 1) root 1 key);have hx1' : x0.alloc (.cells #[.pointer (some ⟨s, 0, none⟩), .int .i64 0, .int .i64 0] 88) = x1 := hx1;clear hx1;refine (callsIn_wide (n := 0)).1 (callsIn_of_wp_marks (F := Fence.wide) (n := 0) Tryz.func19 rfl trivial (wpIn_wide.2 ?_) rfl)
  simp only [Tryz.ntmps19, List.size_toArray, List.length_cons, List.length_nil, Nat.reduceAdd, Nat.reduceSub, Array.replicate_succ, Array.replicate_zero, List.push_toArray, List.append_toArray, List.nil_append, List.cons_append];have HL := Hd (And.intro m2 l2);have HT2 := Hd T2;have HB := Hd (And.intro bw2 z2);have HH := Hd h;have HI := Hd (And.intro hi (And.intro hs (And.intro h9 hP)));have HX := Hd (And.intro hx0 (And.intro hx1' hx2));have HN := Hd hn0;have HE6 := Hd hE;clear T1 T2 b0 b1 b2 m0 l2 m2 bw2 h hi hs hl hz hE G z0 z1 hx0 hx1' hx2 hn0 h9 hP;go_wp2_with fail
  rw [HX.out.1, HX.out.2.1, HX.out.2.2, HN.out];refine FI.out.mono ?_;rintro e w6 ⟨rfl, hbx, b6, s6⟩;rw [z2] at hbx b6 s6 ⊢;simp only [Nat.add_assoc, Nat.reduceAdd] at hbx s6 ⊢;clear z2 FI;go_wp2_with fail;have hF0 : ∀ k, F k → k < n0 := fun k hk => by rw [← HN.out]; exact HH.out.lt k hk
  have hT6 := HT2.out.below (by rw [HB.out.2]; exact b6);have hm6 : w6.heap[n0]? = some (.cells #[.int .i64 most] 3) := (b6.block _ (by omega)).trans HL.out.1;have hl6 : w6.heap[n0 + 2]? = some (.cells #[.slice none 0 0] 43) := (b6.block _ (by omega)).trans HL.out.2;have hb6 : Below n0 w w6 := HB.out.1.trans (b6.mono (by omega))
  have hit := from_iter key hh w6 d s (n0 + 1) dk st 0 (fun k => F k ∨ k = n0 + 1) hT6 hu root F0 P0 HI.out.1 HI.out.2.1 1 (by omega) (by have := HI.out.2.2.1; omega) (by have := HI.out.2.2.2; omega) (n0 + 3) (n0 + 4) (n0 + 5) (n0 + 6) hbx ⟨fun h => by rcases h with h | h; (have := hF0 _ h; omega); omega, fun h => by rcases h with h | h; (have := hF0 _ h; omega); omega, fun h => by rcases h with h | h; (have := hF0 _ h; omega); omega, fun h => by rcases h with h | h; (have := hF0 _ h; omega); omega⟩
  have hGn : ∀ k, FF (fun k => F k ∨ k = n0 + 1) (n0 + 3) (n0 + 4) (n0 + 5) (n0 + 6) k → F k ∨ k = n0 + 1 ∨ n0 + 3 ≤ k := fun k hk => by
   rcases hk with (hk | hk) | hk | hk | hk | hk
   ·exact .inl hk
   ·exact .inr (.inl hk)
   all_goals exact .inr (.inr (by omega))
  have FIN : ∀ (D : Nat) (v : Value) (L : List Ent) (C' : Nat → Prop) (W W' : World), w6.heap.size ≤ D → ScI (n0 + 2) n0 most L C' W → (∀ k, C' k ↔ k = n0 + 2 ∨ k = n0 ∨ v.ownBlock = some k) → W.ownsRow (n0 + 2 + 1) 50 2 v L.length (rowsE L) → VP d s (n0 + 1) dk st 0 (fun k => F k ∨ k = n0 + 1) P0.length W → Frm (fun k => (k = n0 + 2 ∨ k = n0) ∨ FF (fun k => F k ∨ k = n0 + 1) (n0 + 3) (n0 + 4) (n0 + 5) (n0 + 6) k) w6 W → ¬ C' D → Frm (fun k => k ∈ [D]) W W' → W'.ownsRow n0 50 2 v L.length (rowsE L) ∧ SD W' d s dk st F ∧ Frm F w W' := by
   intro D v L C' W W' hD hS hC hown hV hfr hnD hm;refine ⟨?_, ?_⟩
   ·have h1 := own_frmZ hown hm fun k hk hd => by
     rw [List.mem_singleton] at hd;exact hnD ((hC D).2 (.inr (.inr (hd ▸ hk))))
    refine ⟨h1.1, ?_⟩
    rcases h1.2 with hx | ⟨g, cap, cur, hv, hbg, r⟩
    ·exact .inl hx
    ·exact .inr ⟨g, cap, cur, hv, by omega, r⟩
   ·obtain ⟨r', _, _, FD, FS, hti, he⟩ := hV
    have hDn : n0 + 7 ≤ D := by omega
    have hSD : SD W d s dk st F := ⟨FD, FS, hti.ds, fun k => ⟨fun hk => ?_, fun hk => ?_⟩⟩
    ·refine ⟨hSD.frm hm fun k hk hd => ?_, ?_⟩
     ·rw [List.mem_singleton] at hd
      have := hF0 k hk;omega
     ·refine ((Frm.of_below (by rw [HN.out]; exact hb6)).trans hfr fun k hk => ?_).trans hm fun k hk => ?_
      ·rw [HN.out]
       rcases hk with (hk | hk) | hk
       ·exact .inr (by omega)
       ·exact .inr (by omega)
       ·rcases hGn k hk with h1 | h1 | h1
        ·exact .inl h1
        ·exact .inr (by omega)
        ·exact .inr (by omega)
      ·rw [List.mem_singleton] at hk
       rw [HN.out];exact .inr (by omega)
    ·rcases (he k).1 (.inl hk) with h1 | h1 | h1
     ·exact .inl h1
     ·exact .inr h1
     ·have := hF0 k hk; omega
    ·rcases (he k).2 (hk.imp id .inl) with h1 | h1
     ·exact h1
     ·rw [h1] at hk
      rcases hk with hk | hk
      ·exact absurd hk hti.gd
      ·exact absurd hk hti.gs
  have HFIN := Hd FIN;clear FIN
  refine (wpIn_wide (n := 0)).1 (rangeK rfl (enters_of Tryz.func90 (by kernel_rfl) rfl) hit (fun Wz lz o hz hv => ?_) (fun k hk => ?_) (by intro _; rfl) (fun k => k = n0 + 2 ∨ k = n0) (fun k hk hg => ?_) (fun pre C W => ScI (n0 + 2) n0 most pre C W ∧ (pre.length : Int) < most) (fun c pre C W => c = .exit 0 ∧ ScI (n0 + 2) n0 most pre C W ∧ (pre.length : Int) = most) (fun s D A B hh ho => ⟨hh.1.on ho, hh.2⟩) (fun c s D A B hh ho => ⟨hh.1, hh.2.1.on ho, hh.2.2⟩) (fun s D A hh => hh.1.lt) (fun c s D A hh => hh.2.1.lt) ⟨⟨.slice none 0 0, hl6, hm6, World.ownsRow_nil _ _ _ _, fun k => by simp [Value.ownBlock]⟩, by simp; omega⟩ ?_ ?_ ?_)
  ·obtain ⟨r', g1, g2, g3⟩ := hv
   exact ⟨r', g1, g2, g3.frm (putObj_frm Wz lz o) fun k hk e => by have := hT6.lt k hk; omega⟩
  ·rcases hGn k hk with h1 | h1 | h1
   ·have := hF0 k h1; omega
   ·omega
   ·rcases hk with hk | hk | hk | hk | hk
    ·exact hT6.lt k hk
    all_goals omega
  ·rcases hk with rfl | rfl
   ·rcases hGn _ hg with h1 | h1 | h1
    ·have := hF0 _ h1; omega
    ·omega
    ·omega
   ·rcases hGn _ hg with h1 | h1 | h1
    ·have := hF0 _ h1; omega
    ·omega
    ·omega
  ·intro l pre x C1 Wz hpre hI hD hz hnl hll
   have bE := below_made Wz (.cells #[.int .u64 x.1, .string x.2] 50);have nE := heap_alloc_new Wz (.cells #[.int .u64 x.1, .string x.2] 50);obtain ⟨Wa, hWa⟩ : ∃ Wa, Wz.alloc (.cells #[.int .u64 x.1, .string x.2] 50) = Wa := ⟨_, rfl⟩
   rw [hWa] at bE nE;unfold encE;gi_wp2;try rw [hWa]
   refine ⟨bE, fun Wb hfb hIb => ?_⟩;have HI0 := Hd hIb;obtain ⟨⟨v, e1, e2, hown, hDi⟩, hlm⟩ := hIb;have eb : Wb.heap[Wz.heap.size]? = some (.cells #[.int .u64 x.1, .string x.2] 50) := (hfb.block _ (Array.getElem?_eq_some_iff.1 nE).1 (by omega)).trans nE;obtain ⟨eb0, eb1⟩ := cellsE eb;obtain ⟨cy, cyf⟩ := box1 e1;obtain ⟨va, vc, rfl, hv1, hv2⟩ := own_shape7 hown;obtain ⟨i, z, hi, hz0, hz1, hz2, hz3⟩ := info_entry;have OWN := Hd hown;have HD := Hd hDi;have HLT := Hd hlm;have HB1 := Hd (And.intro e1 e2)
   have hlen : pre.length ≤ 600 := by
    have h1 := hpre.length_le;have h2 := scanE_len key (entsM F0);simp at h1;have := HE6.out;omega
   clear hown hDi hlm e1 e2 hfb eb nE bE hWa
   gi_wp2_with (gi_at_builtin; refine wpListIn_append_own_at _ rfl (.tmp 25) (.tmp 27) 43 rfl (n0 + 2 + 1) 50 i z 2 24 Tryz.underlying43 hi hz0 hz1 hz2 hz3 (by decide) _ _ _ rfl (OWN.out.alloc _) ⟨Wb.heap.size, 0, none⟩ 1 1 (rowE x) rfl rfl ?c1 ?c2 ?c3 ?c4 ?c5 ?_)
   case c1 =>
    intro j u hj
    match j, hj with
    | 0, hj =>
     injection hj with hj;subst hj;exact (cellsE (heap_alloc_new Wb _)).1
    | 1, hj =>
     injection hj with hj;subst hj;exact (cellsE (heap_alloc_new Wb _)).2
    | j + 2, hj => simp [rowE] at hj
   case c2 =>
    intro u hu;simp only [rowE, List.mem_cons, List.not_mem_nil, or_false] at hu
    rcases hu with rfl | rfl <;> rfl
   case c3 => unfold maxLen; omega
   case c4 => omega
   case c5 =>
    have := (HI0.out.1.lt (n0 + 2) ((by obtain ⟨_, _, _, _, h9⟩ := HI0.out.1; exact (h9 _).2 (.inl rfl))))
    simp;omega
   intro v' w9 hown' hgrow hnil hat;rw [← rowsE_snoc] at hown';have olt : ∀ k, (Value.slice va pre.length vc).ownBlock = some k → n0 + 2 + 1 ≤ k ∧ k < Wb.heap.size := fun k hk => OWN.out.lt k hk
   have lts := HI0.out.1.lt;have lb9 := lts (n0 + 2) ((HD.out _).2 (.inl rfl));have lm9 := lts n0 ((HD.out _).2 (.inr (.inl rfl)));have ks : ∀ k, k < n0 + 3 → k < Wb.heap.size → w9.heap[k]? = Wb.heap[k]? := fun k h1 h2 => (hgrow.block k (by simp; omega) (fun e => by have := olt k e.symm; omega)).trans (heap_alloc_old _ _ h2)
   have a1 := (ks _ (by omega) lb9).trans HB1.out.1;have a2 := (ks _ (by omega) lm9).trans HB1.out.2;obtain ⟨d1, d1f⟩ := box1 a1;have d2 := (box1 a2).1;obtain ⟨va', vc', rfl, _, _⟩ := own_shape7 hown'
   have FR : Hid (∀ wf, w9.setCell ⟨n0 + 2, 0, none⟩ (.slice va' (pre.length + 1) vc') = wf → Own1 C1 Wb (fun k => k = n0 + 2 ∨ k = n0 ∨ (Value.slice va' (pre.length + 1) vc').ownBlock = some k) wf ∧ ScI (n0 + 2) n0 most (pre ++ [x]) (fun k => k = n0 + 2 ∨ k = n0 ∨ (Value.slice va' (pre.length + 1) vc').ownBlock = some k) wf) := Hd (fun wf hwf => by
    have og := hown'.lt;refine ⟨⟨?_, fun k hk => ?_⟩, ?_⟩
    ·rw [← hwf]
     exact ((((Frm.refl _ Wb).alloc _).grown hgrow fun k hk => .inl ((HD.out k).2 (.inr (.inr hk)))).setCell _ _ (.inl ((HD.out _).2 (.inl rfl))))
    ·rcases hk with rfl | rfl | hk
     ·exact .inl ((HD.out _).2 (.inl rfl))
     ·exact .inl ((HD.out _).2 (.inr (.inl rfl)))
     ·rcases hat with h1 | h1
      ·exact .inl ((HD.out k).2 (.inr (.inr (h1 ▸ hk))))
      ·rw [h1] at hk; injection hk with hk; exact .inr (by omega)
    ·refine ⟨.slice va' (pre.length + 1) vc', ?_, ?_, ?_, fun k => Iff.rfl⟩
     ·rw [← hwf, heap_setCell_same _ _ 0 _ _ _ a1]; rfl
     ·rw [← hwf, heap_setCell_other _ _ _ _ (by show n0 ≠ n0 + 2; omega)]; exact a2
     ·rw [← hwf, List.length_append]
      exact ownsRow_setCell_other hown' (fun e => by have := (og _ e).1; simp at this) _)
   by_cases hbr : ((pre.length + 1 : Nat) : Int) = most
   ·have hbr2 : (pre.length : Int) + 1 = most := by omega
    have hbr3 : ((pre.length : Int) + 1 == most) = true := beq_iff_eq.2 hbr2;have HBR := Hd hbr;clear hown' hgrow hnil hat olt ks a1 a2 lts lb9 lm9 HB1 OWN HD hi hz0 hz1 hz2 hz3 hv1 hv2 hbr;gi_wp2;obtain ⟨f1, f2⟩ := FR.out _ rfl;exact ⟨_, f1, rfl, f2, by rw [List.length_append]; exact HBR.out⟩
   ·have hbr2 : ¬ (pre.length : Int) + 1 = most := by omega
    have hbr3 : ((pre.length : Int) + 1 == most) = false := beq_eq_false_iff_ne.2 hbr2;have HBR := Hd hbr;clear hown' hgrow hnil hat olt ks a1 a2 lts lb9 lm9 HB1 OWN HD hi hz0 hz1 hz2 hz3 hv1 hv2 hbr;gi_wp2;obtain ⟨f1, f2⟩ := FR.out _ rfl;refine ⟨_, f1, f2, ?_⟩;have := HLT.out;rw [List.length_append];simp only [List.length_cons, List.length_nil];omega
  ·intro D C' W hD hI hV hfr hC' hnD hdef
   obtain ⟨⟨v, e1, e2, hown, hCC⟩, hlm⟩ := hI;have HE := Hd (HFIN.out D v _ C' W · hD ⟨v, e1, e2, hown, hCC⟩ hCC hown hV hfr hnD)
   have z2 : W.cell? ⟨n0 + 1, 2, none⟩ = some (.int .i64 0) := by
    obtain ⟨r', _, _, FD, FS, hti, _⟩ := hV;exact (vis_cells hti.v).2.2.1
   have c1 := (box1 e1).1;have HM : Hid (Marks W [D]) := Hd ((Marks.nil W).cons (by simp) hdef);have HT : Hid ((scanE key (entsM F0)).take most.toNat = scanE key (entsM F0)) := Hd (List.take_of_length_le (by omega));clear hown hV hfr hdef hit;go_wp2_with fail;refine leavesM [D] W HM.out fun W' hm => ⟨_, results_tmp2 (fn := Tryz.f19) rfl _ _ _, ?_⟩
   refine ⟨v, rfl, ?_⟩;rw [HT.out, HN.out];exact HE.out W' hm
  ·rintro D c pre C' W hD hpre ⟨rfl, hI, hlm⟩ hV hfr hC' hnD hdef
   obtain ⟨v, e1, e2, hown, hCC⟩ := hI;have HE := Hd (HFIN.out D v _ C' W · hD ⟨v, e1, e2, hown, hCC⟩ hCC hown hV hfr hnD)
   have z2 : W.cell? ⟨n0 + 1, 2, none⟩ = some (.int .i64 0) := by
    obtain ⟨r', _, _, FD, FS, hti, _⟩ := hV;exact (vis_cells hti.v).2.2.1
   have c1 := (box1 e1).1;have HM : Hid (Marks W [D]) := Hd ((Marks.nil W).cons (by simp) hdef);have HT : Hid ((scanE key (entsM F0)).take most.toNat = pre) := Hd (by rw [show most.toNat = pre.length by omega]; exact (List.prefix_iff_eq_take.1 hpre).symm);clear hown hV hfr hdef hit;refine wpIn_wide.2 ?_;go_wp2_with fail;refine leavesM [D] W HM.out fun W' hm => ⟨_, results_tmp2 (fn := Tryz.f19) rfl _ _ _, ?_⟩
   refine ⟨v, rfl, ?_⟩;rw [HT.out, HN.out];exact HE.out W' hm
theorem rowsE_at : ∀ (L : List Ent) (j : Nat) (e : Ent), L[j]? = some e → (rowsE L)[j * 2]? = some (.int .u64 e.1) ∧ (rowsE L)[j * 2 + 1]? = some (.string e.2) := by
 intro L
 induction L with
 | nil => intro j e h; simp at h
 | cons x L ih =>
  intro j e h;have hc : rowsE (x :: L) = .int .u64 x.1 :: .string x.2 :: rowsE L := by simp [rowsE, rowE]
  rw [hc]
  cases j with
  | zero => simp at h; subst h; exact ⟨rfl, rfl⟩
  | succ j =>
   have := ih j e (by simpa using h);rw [show (j + 1) * 2 = j * 2 + 1 + 1 by omega];exact ⟨this.1, this.2⟩
def RowE (w : World) (v : Value) (L : List Ent) : Prop := w.ownsRow 0 50 2 v L.length (rowsE L)
theorem RowE.shape {w : World} {v : Value} {L : List Ent} (h : RowE w v L) : ∃ a c, v = .slice a L.length c := by
 obtain ⟨a, c, h1, _, _⟩ := own_shape7 h;exact ⟨a, c, h1⟩
theorem RowE.at {w : World} {a : Option Addr} {c : Nat} {L : List Ent} (h : RowE w (.slice a L.length c) L) {j : Nat} {e : Ent} (he : L[j]? = some e) : ∃ g, a = some ⟨g, 0, none⟩ ∧ g < w.heap.size ∧ w.cell? ⟨g, j * 2, none⟩ = some (.int .u64 e.1) ∧ w.cell? ⟨g, j * 2 + 1, none⟩ = some (.string e.2) := by
 have hj : j < L.length := (List.getElem?_eq_some_iff.1 he).1;obtain ⟨r1, r2⟩ := rowsE_at L j e he
 rcases h.2 with ⟨_, h0⟩ | ⟨g, cap, cur, hv, _, hh, _⟩
 ·omega
 ·injection hv with h1 h2 h3
  subst h1 h3;exact ⟨g, rfl, (Array.getElem?_eq_some_iff.1 hh).1, (h.cellAt (j * 2) (by omega)).trans r1, (h.cellAt (j * 2 + 1) (by omega)).trans r2⟩
theorem RowE.kept {w w' : World} {v : Value} {L : List Ent} (h : RowE w v L) (hk : ∀ k, v.ownBlock = some k → w'.heap[k]? = w.heap[k]?) : RowE w' v L := by
 refine ⟨h.1, ?_⟩
 rcases h.2 with hx | ⟨g, cap, cur, hv, hbg, hh, r⟩
 ·exact .inl hx
 ·exact .inr ⟨g, cap, cur, hv, hbg, (hk g (by rw [hv]; rfl)).trans hh, r⟩
theorem scan_R {w0 : World} {R : List Nat} {w : World} {d s n : Nat} {root : Int} {E : List Ent} (h : TrR w0 R w d s n root E) (hE : E.length ≤ 600) (key most : Int) :
  Calls Tryz.prog 19 #[.pointer (some ⟨s, 0, none⟩), .int .i64 root, .int .u64 key, .int .i64 most] w fun e w' => ∃ v, e = .returned (.tuple #[v, .int .i64 0]) ∧ RowE w' v ((scanE key E).take most.toNat) ∧ TrR w0 (v.ownBlock.toList ++ R) w' d s n root E ∧ KeptL R w w' ∧ ∀ k, v.ownBlock = some k → w.heap.size ≤ k := by
 obtain ⟨hb, F, ⟨dk, st, h1, G, ht, hl, hh⟩, hF, hR⟩ := h;refine (scan_is w d s dk st F h1 G root E ht hE key most).mono ?_;rintro e w' ⟨v, rfl, ho, hp, hf⟩;have hlo := ho.lt;have hlt := h1.lt;refine ⟨v, rfl, ⟨ho.1, ho.2.imp id fun ⟨g, cap, cur, hv, _, r⟩ => ⟨g, cap, cur, hv, Nat.zero_le _, r⟩⟩, ⟨hb.trans (hf.below hF hb.size), F, ⟨dk, st, hp, G, ht, hl, hh⟩, hF, fun k hk => ?_⟩, fun k hk => hf.block k (hR k hk).1 (hR k hk).2, fun k hk => (hlo k hk).1⟩
 rcases List.mem_append.1 hk with hk | hk
 ·have hk' : v.ownBlock = some k := by simpa using hk
  exact ⟨(hlo k hk').2, fun hx => by have := hlt k hx; have := (hlo k hk').1; omega⟩
 ·exact ⟨Nat.lt_of_lt_of_le (hR k hk).1 hf.size, (hR k hk).2⟩
theorem do_del (w : World) (t s : Nat) (root : Int) (caps : Array Value) (hc : w.heap[t]? = some (txC s root 0 false)) (R : Int → World → Prop)
  (HC : Calls Tryz.prog 69 caps w fun e w' => ∃ c, e = .returned (.int .i64 c) ∧ R c w' ∧ ∃ root', w'.heap[t]? = some (txC s root' 0 false)) :
  Calls Tryz.prog 62 #[.pointer (some ⟨t, 0, none⟩), .func (.func 69) #[] caps] w fun e w' => ∃ c w1, e = .returned (.bool (c == 0)) ∧ R c w1 ∧ w1.setCell ⟨t, 2, none⟩ (.int .i64 c) = w' := by
 have H := Hd HC;obtain ⟨c0, c1, c2, c3, fz⟩ := cellsT hc;clear hc HC fz;go_enter Tryz.func62, Tryz.ntmps62;go_wp2_with fail;refine H.out.mono ?_;rintro e w1 ⟨c, rfl, hR, root', hc1⟩;have FIN := Hd hR;obtain ⟨d0, d1, d2, d3, g⟩ := cellsT hc1;have g2 := g 2;obtain ⟨w2, hw2⟩ : ∃ w2, w1.setCell ⟨t, 2, none⟩ (.int .i64 c) = w2 := ⟨_, rfl⟩
 have e2 : w2.cell? ⟨t, 2, none⟩ = some (.int .i64 c) := by
  unfold txC at hc1;have h9 := heap_setCell_same w1 t 2 _ _ (.int .i64 c) hc1;rw [hw2] at h9;rw [Go.Joins.cell_of_block h9]; rfl
 have HW := Hd hw2;clear hR hc1 g c0 c1 c2 c3 H;go_upto_region 4 with fail
 try rw [hw2]
 clear hw2 d0 d1 d2 d3 g2;go_wp2_with fail;go_ret;exact ⟨c, w1, rfl, FIN.out, HW.out⟩
theorem do_scan (w : World) (t s : Nat) (root : Int) (caps : Array Value) (hc : w.heap[t]? = some (txC s root 0 false)) (R : Int → World → Prop)
  (HC : Calls Tryz.prog 67 caps w fun e w' => ∃ c, e = .returned (.int .i64 c) ∧ R c w' ∧ ∃ root', w'.heap[t]? = some (txC s root' 0 false)) :
  Calls Tryz.prog 62 #[.pointer (some ⟨t, 0, none⟩), .func (.func 67) #[] caps] w fun e w' => ∃ c w1, e = .returned (.bool (c == 0)) ∧ R c w1 ∧ w1.setCell ⟨t, 2, none⟩ (.int .i64 c) = w' := by
 have H := Hd HC;obtain ⟨c0, c1, c2, c3, fz⟩ := cellsT hc;clear hc HC fz;go_enter Tryz.func62, Tryz.ntmps62;go_wp2_with fail;refine H.out.mono ?_;rintro e w1 ⟨c, rfl, hR, root', hc1⟩;have FIN := Hd hR;obtain ⟨d0, d1, d2, d3, g⟩ := cellsT hc1;have g2 := g 2;obtain ⟨w2, hw2⟩ : ∃ w2, w1.setCell ⟨t, 2, none⟩ (.int .i64 c) = w2 := ⟨_, rfl⟩
 have e2 : w2.cell? ⟨t, 2, none⟩ = some (.int .i64 c) := by
  unfold txC at hc1;have h9 := heap_setCell_same w1 t 2 _ _ (.int .i64 c) hc1;rw [hw2] at h9;rw [Go.Joins.cell_of_block h9]; rfl
 have HW := Hd hw2;clear hR hc1 g c0 c1 c2 c3 H;go_upto_region 4 with fail
 try rw [hw2]
 clear hw2 d0 d1 d2 d3 g2;go_wp2_with fail;go_ret;exact ⟨c, w1, rfl, FIN.out, HW.out⟩
theorem del1_is {w0 w : World} {R : List Nat} {t d s n bt bk bw : Nat} {root key : Int} {E : List Ent} (h : TrR w0 R w d s n root E) (ps : GetS bt bk t s root key w) (hm : bt ∈ R ∧ bk ∈ R ∧ t ∈ R) (ht0 : w0.heap.size ≤ t) (hw : w.heap[bw]? = some (.cells #[.bool false] 4) ∧ bw ∈ R ∧ w0.heap.size ≤ bw ∧ bw ≠ t)
  (H0 : Nat) (h9 : H0 ≤ 8) (hE : E.length < 2 ^ (H0 + 1)) (hn : 2 * E.length + 2 * H0 + 5 ≤ n) (hk : 0 ≤ key ∧ key ≤ 18446744073709551615) (gb : Bool) (hgb : getB key E = gb) :
  Calls Tryz.prog 69 #[.pointer (some ⟨bt, 0, none⟩), .pointer (some ⟨bk, 0, none⟩), .pointer (some ⟨bw, 0, none⟩)] w fun e w' => e = .returned (.int .i64 0) ∧ ∃ q, TrR w0 R w' d s n q (delE key E) ∧ w'.heap[t]? = some (txC s q 0 false) ∧ w'.heap[bw]? = some (.cells #[.bool gb] 4) ∧ ∀ k ∈ R, k ≠ t → k ≠ bw → w'.heap[k]? = w.heap[k]? := by
 have PS := Hd (show GetS bt bk t s root key w.drew from ps);have PT0 := del_R (h.below Br.drew) H0 h9 hE hn key hk;rw [hgb] at PT0;have PT := Hd PT0;have HM := Hd hm;have HT0 := Hd ht0;have HB := Hd hw;clear h ps h9 hE hn hk ht0 hw hgb PT0;go_enter Tryz.func69, Tryz.ntmps69;go_upto_region 1 with fail
 refine wp_region_held_drew (S := fun w' => GetS bt bk t s root key w') (by kernel_rfl) PS.out (fun hS => ?_);refine Hv 0 8 ?va0x1 hS ?ha0x1 ?_
 case ha0x1 =>
  intro w9 s9;have k9 := (box1 s9.1).1;clear s9;go_simp;try (with_reducible rfl)
 simp only [SL];refine Hu 1 9 hS ?_;simp only [SL];refine Hu 2 10 hS ?_;simp only [SL];refine Hv 3 11 ?va3x4 hS ?ha3x4 ?_
 case ha3x4 =>
  intro w9 s9;obtain ⟨k0, k1, _, _, _⟩ := cellsT s9.2.2;clear s9;go_simp;try (with_reducible rfl)
 simp only [SL];refine Hv 4 12 ?va4x5 hS ?ha4x5 ?_
 case ha4x5 =>
  intro w9 s9;have k9 := (box1 s9.1).1;clear s9;go_simp;try (with_reducible rfl)
 simp only [SL];refine Hu 5 13 hS ?_;simp only [SL];refine Hu 6 14 hS ?_;simp only [SL];refine Hv 7 15 ?va7x8 hS ?ha7x8 ?_
 case ha7x8 =>
  intro w9 s9;obtain ⟨k0, k1, _, _, _⟩ := cellsT s9.2.2;clear s9;go_simp;try (with_reducible rfl)
 simp only [SL];refine Hv 8 16 ?va8x9 hS ?ha8x9 ?_
 case ha8x9 =>
  intro w9 s9;have k9 := (box1 s9.2.1).1;clear s9;go_simp;try (with_reducible rfl)
 simp only [SL];refine Hs 9 (fun K HK => ?_);go_simp;go_wp2_with fail;refine PT.out.mono ?_;rintro e w6 ⟨q, rfl, hT, hK⟩;refine HK.out _ _ ?_ ?_
 ·exact hS.kept hm hK
 clear HK K;try simp only [Act.put, SL]
 have hS' := hS.kept hm hK;clear hS;have hS := hS';clear hS';refine Hu 10 7 hS ?_;simp only [SL];refine Hu 11 18 hS ?_;simp only [SL];refine Hu 12 19 hS ?_;simp only [SL];refine Hu 13 20 hS ?_;simp only [SL];refine Hu 14 4 hS ?_;simp only [SL];refine Hu 15 5 hS ?_;simp only [SL];refine Hu 16 6 hS ?_;simp only [SL];refine wpAnyH_done (by kernel_rfl) ?_ _;have bx := (box1 hS.1).1;obtain ⟨d0, d1, d2, d3, g⟩ := cellsT hS.2.2;have g1 := g 1;have V0 := (hK bw HB.out.2.1).trans HB.out.1;obtain ⟨u0, u1⟩ := box1 V0
 have X0 : (w6.setCell ⟨t, 1, none⟩ (.int .i64 q)).heap[bw]? = some (.cells #[.bool false] 4) := (Below.heap_setCell _ _ _ _ HB.out.2.2.2).trans V0;obtain ⟨y0, y1⟩ := box1 X0;obtain ⟨w8, hw8⟩ : ∃ w8, (w6.setCell ⟨t, 1, none⟩ (.int .i64 q)).setCell ⟨bw, 0, none⟩ (.bool gb) = w8 := ⟨_, rfl⟩
 have FIN : Hid (∃ q, TrR w0 R w8 d s n q (delE key E) ∧ w8.heap[t]? = some (txC s q 0 false) ∧ w8.heap[bw]? = some (.cells #[.bool gb] 4) ∧ ∀ k ∈ R, k ≠ t → k ≠ bw → w8.heap[k]? = w.heap[k]?) := Hd (by
  obtain ⟨w7, hw7⟩ : ∃ w7, w6.setCell ⟨t, 1, none⟩ (.int .i64 q) = w7 := ⟨_, rfl⟩
  rw [hw7] at hw8 X0;have f7 : Frm (fun k => k = t) w6 w7 := by rw [← hw7]; exact set_frmT _
  have f8 : Frm (fun k => k = bw) w7 w8 := by rw [← hw8]; exact set_frmT _
  have h7 := hT.turn HM.out.2.2 HT0.out f7;refine ⟨q, h7.turn HB.out.2.1 HB.out.2.2.1 f8, ?_, ?_, fun k hk h1 h2 => (f8.block k (h7.lt k hk) h2).trans ((f7.block k (hT.lt k hk) h1).trans (hK k hk))⟩
  ·rw [f8.block t (h7.lt t HM.out.2.2) (Ne.symm HB.out.2.2.2)]
   have h1 := hS.2.2;unfold txC at h1 ⊢;rw [← hw7, heap_setCell_same _ _ 1 _ _ _ h1]
   rfl
  ·rw [← hw8, heap_setCell_same _ _ 0 _ _ _ X0]
   rfl)
 have HW := Hd hw8;clear hS hT hK g hm V0 X0 hw8;go_upto_region 4 with fail
 rw [HW.out];clear bx d0 d1 d2 d3 g1 u0 u1 y0 y1;go_wp2_with fail;go_ret;exact ⟨rfl, FIN.out⟩
theorem boxes3 {w0 w : World} {R : List Nat} {t d s n : Nat} {root : Int} {E : List Ent} (h : TrR w0 (t :: R) w d s n root E) (o1 o2 o3 : Obj) (x3 : World) (hx : ((w.alloc o1).alloc o2).alloc o3 = x3) :
  TrR w0 ((w.heap.size + 2) :: (w.heap.size + 1) :: w.heap.size :: t :: R) x3 d s n root E ∧ x3.heap[w.heap.size]? = some o1 ∧ x3.heap[w.heap.size + 1]? = some o2 ∧ x3.heap[w.heap.size + 2]? = some o3 ∧ t < w.heap.size ∧ (∀ k ∈ t :: R, k < w.heap.size) ∧ Below w.heap.size w x3 := by
 obtain ⟨x1, hx1⟩ : ∃ x1, w.alloc o1 = x1 := ⟨_, rfl⟩
 obtain ⟨x2, hx2⟩ : ∃ x2, x1.alloc o2 = x2 := ⟨_, rfl⟩
 rw [hx1, hx2] at hx;have z1 : x1.heap.size = w.heap.size + 1 := by rw [← hx1]; simp
 have z2 : x2.heap.size = w.heap.size + 2 := by rw [← hx2]; simp [z1]
 have z3 : x3.heap.size = w.heap.size + 3 := by rw [← hx]; simp [z2]
 have b1 : Below w.heap.size w x1 := by rw [← hx1]; exact below_made _ _
 have b2 : Below x1.heap.size x1 x2 := by rw [← hx2]; exact below_made _ _
 have b3 : Below x2.heap.size x2 x3 := by rw [← hx]; exact below_made _ _
 have m1 : x1.heap[w.heap.size]? = some o1 := by rw [← hx1]; exact heap_alloc_new w _
 have m2 : x2.heap[w.heap.size + 1]? = some o2 := by rw [← hx2, ← z1]; exact heap_alloc_new x1 _
 have m3 : x3.heap[w.heap.size + 2]? = some o3 := by rw [← hx, ← z2]; exact heap_alloc_new x2 _
 have hlt := h.lt;have bw : Below w.heap.size w x3 := (b1.trans (b2.mono (by omega))).trans (b3.mono (by omega))
 exact ⟨((h.more b1 w.heap.size (Nat.le_refl _) (by omega)).more b2 (w.heap.size + 1) (by omega) (by omega)).more b3 (w.heap.size + 2) (by omega) (by omega),
  (b3.block _ (by omega)).trans ((b2.block _ (by omega)).trans m1), (b3.block _ (by omega)).trans m2, m3, hlt t (by simp), hlt, bw⟩
theorem del_T {w0 w : World} {R : List Nat} {t d s n : Nat} {root key : Int} {E : List Ent} (h : TrR w0 (t :: R) w d s n root E) (ht : w.heap[t]? = some (txC s root 0 false)) (ht0 : w0.heap.size ≤ t)
  (H0 : Nat) (h9 : H0 ≤ 8) (hE : E.length < 2 ^ (H0 + 1)) (hn : 2 * E.length + 2 * H0 + 5 ≤ n) (hk : 0 ≤ key ∧ key ≤ 18446744073709551615) (gb : Bool) (hgb : getB key E = gb) :
  Calls Tryz.prog 39 #[.pointer (some ⟨t, 0, none⟩), .int .u64 key] w fun e w' => e = .returned (.bool gb) ∧ ∃ q, TrR w0 (t :: R) w' d s n q (delE key E) ∧ w'.heap[t]? = some (txC s q 0 false) ∧ ∀ k ∈ R, k ≠ t → w'.heap[k]? = w.heap[k]? := by
 obtain ⟨x3, hx3⟩ : ∃ x3, ((w.alloc (.cells #[.pointer (some ⟨t, 0, none⟩)] 67)).alloc (.cells #[.int .u64 key] 28)).alloc (.cells #[.bool false] 4) = x3 := ⟨_, rfl⟩
 obtain ⟨hT, m1, m2, m3, htl, hlt, bw⟩ := boxes3 h _ _ _ x3 hx3;have ht4 := (bw.block t htl).trans ht;have hs0 := h.size.size
 have DO := Hd (do_del x3 t s root #[.pointer (some ⟨w.heap.size, 0, none⟩), .pointer (some ⟨w.heap.size + 1, 0, none⟩), .pointer (some ⟨w.heap.size + 2, 0, none⟩)] ht4
  (fun c w' => c = 0 ∧ ∃ q, TrR w0 ((w.heap.size + 2) :: (w.heap.size + 1) :: w.heap.size :: t :: R) w' d s n q (delE key E) ∧ w'.heap[t]? = some (txC s q 0 false) ∧ w'.heap[w.heap.size + 2]? = some (.cells #[.bool gb] 4) ∧ ∀ k ∈ ((w.heap.size + 2) :: (w.heap.size + 1) :: w.heap.size :: t :: R), k ≠ t → k ≠ w.heap.size + 2 → w'.heap[k]? = x3.heap[k]?)
  ((del1_is hT ⟨m1, m2, ht4⟩ (by simp) ht0 ⟨m3, by simp, by omega, by omega⟩ H0 h9 hE hn hk gb hgb).mono fun e w' ⟨h1, q, h2, h3, h4, h5⟩ => ⟨0, h1, ⟨rfl, q, h2, h3, h4, h5⟩, q, h3⟩))
 have HF := Hd (And.intro bw (And.intro htl (And.intro hlt ht0)));have bx := (box1 m1).1;have HX := Hd hx3;clear h ht hT m1 m2 m3 htl hlt ht0 bw hx3 h9 hE hn hk hgb ht4 hs0;go_enter Tryz.func39, Tryz.ntmps39;go_upto_region 2 with fail
 try simp only [Nat.add_assoc, Nat.reduceAdd, World.heap_size_alloc]
 rw [HX.out];go_wp2_with fail;refine DO.out.mono ?_;rintro e w6 ⟨c, w5, rfl, ⟨rfl, q, h1, h2, h3, h4⟩, hw6⟩;have htl := HF.out.2.1;obtain ⟨g1, g2⟩ := setT h2 hw6;have cb := (box1 ((g2.block _ (h1.lt (w.heap.size + 2) (by simp)) (by omega)).trans h3)).1
 have FIN : Hid (∃ q, TrR w0 (t :: R) w6 d s n q (delE key E) ∧ w6.heap[t]? = some (txC s q 0 false) ∧ ∀ k ∈ R, k ≠ t → w6.heap[k]? = w.heap[k]?) := Hd (by
  refine ⟨q, (h1.turn (by simp) HF.out.2.2.2 g2).sub (fun k hk => by simp only [List.mem_cons] at hk ⊢; rcases hk with hk | hk <;> simp [hk]), g1, fun k hk hne => ?_⟩;have hm : k ∈ ((w.heap.size + 2) :: (w.heap.size + 1) :: w.heap.size :: t :: R) := by simp [hk]
  have hkl := HF.out.2.2.1 k (by simp [hk]);exact (g2.block k (h1.lt k hm) hne).trans ((h4 k hm hne (by omega)).trans (HF.out.1.block k hkl)))
 clear h1 h2 h3 h4 hw6 g1 g2 bx htl;go_wp2_with fail;go_ret;exact ⟨rfl, FIN.out⟩
def ScnS (bt bk bm t s : Nat) (root key most : Int) (w : World) : Prop := w.heap[bt]? = some (.cells #[.pointer (some ⟨t, 0, none⟩)] 67) ∧ w.heap[bk]? = some (.cells #[.int .u64 key] 28) ∧ w.heap[t]? = some (txC s root 0 false) ∧ w.heap[bm]? = some (.cells #[.int .i64 most] 3)
theorem ScnS.kept {bt bk bm t s : Nat} {root key most : Int} {w w' : World} {R : List Nat} (h : ScnS bt bk bm t s root key most w) (hm : bt ∈ R ∧ bk ∈ R ∧ t ∈ R ∧ bm ∈ R) (hK : KeptL R w w') : ScnS bt bk bm t s root key most w' :=
 ⟨(hK _ hm.1).trans h.1, (hK _ hm.2.1).trans h.2.1, (hK _ hm.2.2.1).trans h.2.2.1, (hK _ hm.2.2.2).trans h.2.2.2⟩
theorem ScnS.set {bt bk bm t s b i : Nat} {root key most : Int} {v : Value} {w : World} (h : ScnS bt bk bm t s root key most w) (hn : bt ≠ b ∧ bk ≠ b ∧ t ≠ b ∧ bm ≠ b) : ScnS bt bk bm t s root key most (w.setCell ⟨b, i, none⟩ v) :=
 ⟨(Below.heap_setCell _ _ _ _ hn.1).trans h.1, (Below.heap_setCell _ _ _ _ hn.2.1).trans h.2.1, (Below.heap_setCell _ _ _ _ hn.2.2.1).trans h.2.2.1, (Below.heap_setCell _ _ _ _ hn.2.2.2).trans h.2.2.2⟩
theorem scan1_is {w0 w : World} {R : List Nat} {t d s n bt bk bm bw : Nat} {root key most : Int} {E : List Ent} (h : TrR w0 R w d s n root E) (LS : List Ent) (hLS : (scanE key E).take most.toNat = LS) (ps : ScnS bt bk bm t s root key most w) (hm : bt ∈ R ∧ bk ∈ R ∧ t ∈ R ∧ bm ∈ R) (hw : w.heap[bw]? = some (.cells #[.slice none 0 0] 43) ∧ bw ∈ R ∧ w0.heap.size ≤ bw ∧ bw < w.heap.size) (hn : bt ≠ bw ∧ bk ≠ bw ∧ t ≠ bw ∧ bm ≠ bw) (hE : E.length ≤ 600) :
  Calls Tryz.prog 67 #[.pointer (some ⟨bt, 0, none⟩), .pointer (some ⟨bk, 0, none⟩), .pointer (some ⟨bm, 0, none⟩), .pointer (some ⟨bw, 0, none⟩)] w fun e w' => e = .returned (.int .i64 0) ∧ ∃ v, TrR w0 (v.ownBlock.toList ++ R) w' d s n root E ∧ w'.heap[bw]? = some (.cells #[v] 43) ∧ RowE w' v LS ∧ (∀ k ∈ R, k ≠ bw → w'.heap[k]? = w.heap[k]?) ∧ ∀ k, v.ownBlock = some k → w.heap.size ≤ k := by
 have PS := Hd (show ScnS bt bk bm t s root key most w.drew from ps);have PT0 := scan_R (h.below Br.drew) hE key most;rw [hLS] at PT0;have PT := Hd PT0;have HB := Hd hw;have HN := Hd hn;clear h ps hE hn hw hLS PT0;go_enter Tryz.func67, Tryz.ntmps67;go_upto_region 1 with fail
 refine wp_region_held_drew (S := fun w' => ScnS bt bk bm t s root key most w') (by kernel_rfl) PS.out (fun hS => ?_);refine Hv 0 6 ?vb0x1 hS ?hb0x1 ?_
 case hb0x1 =>
  intro w9 s9;have k9 := (box1 s9.1).1;clear s9;go_simp;try (with_reducible rfl)
 simp only [SL];refine Hu 1 7 hS ?_;simp only [SL];refine Hu 2 8 hS ?_;simp only [SL];refine Hv 3 9 ?vb3x4 hS ?hb3x4 ?_
 case hb3x4 =>
  intro w9 s9;obtain ⟨k0, k1, _, _, _⟩ := cellsT s9.2.2.1;clear s9;go_simp;try (with_reducible rfl)
 simp only [SL];refine Hv 4 10 ?vb4x5 hS ?hb4x5 ?_
 case hb4x5 =>
  intro w9 s9;have k9 := (box1 s9.1).1;clear s9;go_simp;try (with_reducible rfl)
 simp only [SL];refine Hu 5 11 hS ?_;simp only [SL];refine Hu 6 12 hS ?_;simp only [SL];refine Hv 7 13 ?vb7x8 hS ?hb7x8 ?_
 case hb7x8 =>
  intro w9 s9;obtain ⟨k0, k1, _, _, _⟩ := cellsT s9.2.2.1;clear s9;go_simp;try (with_reducible rfl)
 simp only [SL];refine Hv 8 14 ?vb8x9 hS ?hb8x9 ?_
 case hb8x9 =>
  intro w9 s9;have k9 := (box1 s9.2.1).1;clear s9;go_simp;try (with_reducible rfl)
 simp only [SL];refine Hv 9 15 ?vb9x10 hS ?hb9x10 ?_
 case hb9x10 =>
  intro w9 s9;have k9 := (box1 s9.2.2.2).1;clear s9;go_simp;try (with_reducible rfl)
 simp only [SL];refine Hs 10 (fun K HK => ?_);go_simp;go_wp2_with fail;refine PT.out.mono ?_;rintro e w6 ⟨v0, rfl, hrv, hT, hK, hnv⟩;obtain ⟨va, vc, rfl⟩ := hrv.shape;refine HK.out _ _ ?_ ?_
 ·exact hS.kept hm hK
 clear HK K;try simp only [Act.put, SL]
 have hS' := hS.kept hm hK;clear hS;have hS := hS';clear hS';have V0 := (hK bw HB.out.2.1).trans HB.out.1;obtain ⟨u0, u1⟩ := box1 V0;refine Hu 11 5 hS ?_;simp only [SL];refine Hu 12 17 hS ?_;simp only [SL];refine Hu 13 18 hS ?_;simp only [SL];refine Hs 14 (fun K HK => ?_);go_simp;go_wp2_with fail;refine HK.out _ _ ?_ ?_
 ·exact hS.set HN.out
 clear HK K;try simp only [Act.put, SL]
 obtain ⟨w7, hw7⟩ : ∃ w7, w6.setCell ⟨bw, 0, none⟩ (.slice va LS.length vc) = w7 := ⟨_, rfl⟩
 have FIN : Hid (∃ v, TrR w0 (v.ownBlock.toList ++ R) w7 d s n root E ∧ w7.heap[bw]? = some (.cells #[v] 43) ∧ RowE w7 v LS ∧ (∀ k ∈ R, k ≠ bw → w7.heap[k]? = w.heap[k]?) ∧ ∀ k, v.ownBlock = some k → w.heap.size ≤ k) := Hd (by
  have f7 : Frm (fun k => k = bw) w6 w7 := by rw [← hw7]; exact set_frmT _
  refine ⟨_, hT.turn (List.mem_append.2 (.inr HB.out.2.1)) HB.out.2.2.1 f7, ?_, hrv.kept (fun k hk => f7.block k (hT.lt k (List.mem_append.2 (.inl (by simp [hk])))) (fun e => by have h1 : w.heap.size ≤ k := hnv k hk; have := HB.out.2.2.2; omega)), fun k hk h1 => (f7.block k (hT.lt k (List.mem_append.2 (.inr hk))) h1).trans (hK k hk), hnv⟩;rw [← hw7, heap_setCell_same _ _ 0 _ _ _ V0]
  rfl)
 have hS2 : ScnS bt bk bm t s root key most w7 := by rw [← hw7]; exact hS.set HN.out
 rw [hw7];clear hS hT hK hrv hnv V0 u0 u1 hw7;have hS := hS2;clear hS2;refine Hu 15 4 hS ?_;simp only [SL];refine wpAnyH_done (by kernel_rfl) ?_ _;clear hS;go_wp2_with fail;go_ret;exact ⟨rfl, FIN.out⟩
theorem scan_T {w0 w : World} {R : List Nat} {t d s n : Nat} {root key most : Int} {E : List Ent} (h : TrR w0 (t :: R) w d s n root E) (ht : w.heap[t]? = some (txC s root 0 false)) (ht0 : w0.heap.size ≤ t) (hE : E.length ≤ 600) (LS : List Ent) (hLS : (scanE key E).take most.toNat = LS) :
  Calls Tryz.prog 35 #[.pointer (some ⟨t, 0, none⟩), .int .u64 key, .int .i64 most] w fun e w' => ∃ v, e = .returned v ∧ TrR w0 (t :: (v.ownBlock.toList ++ R)) w' d s n root E ∧ w'.heap[t]? = some (txC s root 0 false) ∧ RowE w' v LS ∧ (∀ k ∈ R, k ≠ t → w'.heap[k]? = w.heap[k]?) ∧ ∀ k, v.ownBlock = some k → w.heap.size ≤ k := by
 obtain ⟨x4, hx4⟩ : ∃ x4, (((w.alloc (.cells #[.pointer (some ⟨t, 0, none⟩)] 67)).alloc (.cells #[.int .u64 key] 28)).alloc (.cells #[.int .i64 most] 3)).alloc (.cells #[.slice none 0 0] 43) = x4 := ⟨_, rfl⟩
 obtain ⟨hT, m1, m2, m3, m4, htl, hlt, bw⟩ := boxesG h _ _ _ _ x4 hx4;have ht4 := (bw.block t htl).trans ht;have hs0 := h.size.size
 have DO := Hd (do_scan x4 t s root #[.pointer (some ⟨w.heap.size, 0, none⟩), .pointer (some ⟨w.heap.size + 1, 0, none⟩), .pointer (some ⟨w.heap.size + 2, 0, none⟩), .pointer (some ⟨w.heap.size + 3, 0, none⟩)] ht4
  (fun c w' => c = 0 ∧ ∃ v, TrR w0 (v.ownBlock.toList ++ ((w.heap.size + 3) :: (w.heap.size + 2) :: (w.heap.size + 1) :: w.heap.size :: t :: R)) w' d s n root E ∧ w'.heap[w.heap.size + 3]? = some (.cells #[v] 43) ∧ RowE w' v LS ∧ (∀ k ∈ ((w.heap.size + 3) :: (w.heap.size + 2) :: (w.heap.size + 1) :: w.heap.size :: t :: R), k ≠ w.heap.size + 3 → w'.heap[k]? = x4.heap[k]?) ∧ ∀ k, v.ownBlock = some k → x4.heap.size ≤ k)
  ((scan1_is hT LS hLS ⟨m1, m2, ht4, m3⟩ (by simp) ⟨m4, by simp, by omega, hT.lt _ (by simp)⟩ ⟨by omega, by omega, by omega, by omega⟩ hE).mono fun e w' ⟨h1, v, h2, h3, h4, h5, h6⟩ => ⟨0, h1, ⟨rfl, v, h2, h3, h4, h5, h6⟩, root, (h5 t (by simp) (by omega)).trans ht4⟩))
 have HF := Hd (And.intro ht4 (And.intro bw (And.intro htl (And.intro hlt ht0))));have bx := (box1 m1).1;have HX := Hd hx4;clear h ht hT m1 m2 m3 m4 htl hlt ht0 bw hx4 hE ht4 hs0 hLS;go_enter Tryz.func35, Tryz.ntmps35;go_upto_region 2 with fail
 try simp only [Nat.add_assoc, Nat.reduceAdd, World.heap_size_alloc]
 rw [HX.out];go_wp2_with fail;refine DO.out.mono ?_;rintro e w6 ⟨c, w5, rfl, ⟨rfl, v, h1, h2, h3, h4, h5⟩, hw6⟩;have htl := HF.out.2.2.1;have hsz := HF.out.2.1.size;obtain ⟨g1, g2⟩ := setT ((h4 t (by simp) (by omega)).trans HF.out.1) hw6;have cv := (box1 ((g2.block _ (h1.lt (w.heap.size + 3) (List.mem_append.2 (.inr (by simp)))) (by omega)).trans h2)).1;obtain ⟨va, vc, rfl⟩ := h3.shape
 have FIN : Hid (∃ v, (Value.slice va LS.length vc) = v ∧ TrR w0 (t :: (v.ownBlock.toList ++ R)) w6 d s n root E ∧ w6.heap[t]? = some (txC s root 0 false) ∧ RowE w6 v LS ∧ (∀ k ∈ R, k ≠ t → w6.heap[k]? = w.heap[k]?) ∧ ∀ k, v.ownBlock = some k → w.heap.size ≤ k) := Hd (by
  refine ⟨_, rfl, (h1.turn (List.mem_append.2 (.inr (by simp))) HF.out.2.2.2.2 g2).sub (fun k hk => by simp only [List.mem_cons, List.mem_append] at hk ⊢; rcases hk with hk | hk | hk <;> simp [hk]), g1, h3.kept (fun k hk => g2.block k (h1.lt k (List.mem_append.2 (.inl (by simp [hk])))) (fun e => by have := h5 k hk; omega)), fun k hk hne => ?_, fun k hk => by have := h5 k hk; omega⟩;have hm : k ∈ ((w.heap.size + 3) :: (w.heap.size + 2) :: (w.heap.size + 1) :: w.heap.size :: t :: R) := by simp [hk]
  have hkl := HF.out.2.2.2.1 k (by simp [hk]);exact (g2.block k (h1.lt k (List.mem_append.2 (.inr hm))) hne).trans ((h4 k hm (by omega)).trans (HF.out.2.1.block k hkl)))
 clear h1 h2 h3 h4 h5 hw6 g1 g2 bx htl hsz;go_wp2_with fail;go_ret;obtain ⟨v, rfl, h⟩ := FIN.out;exact ⟨_, rfl, h⟩
theorem root_T {w : World} {t s : Nat} {root e : Int} (ht : w.heap[t]? = some (txC s root e false)) :
  Calls Tryz.prog 38 #[.pointer (some ⟨t, 0, none⟩)] w fun e' w' => e' = .returned (.int .i64 root) ∧ w = w' := by
 obtain ⟨c0, c1, c2, c3, _⟩ := cellsT ht;go_enter Tryz.func38, Tryz.ntmps38;go_wp2_with fail;go_ret;exact ⟨rfl, rfl⟩
theorem rootOver_T {w : World} {t s : Nat} {root e : Int} (ht : w.heap[t]? = some (txC s root e true)) :
  Calls Tryz.prog 38 #[.pointer (some ⟨t, 0, none⟩)] w fun e' w' => e' = .returned (.int .i64 0) ∧ w = w' := by
 obtain ⟨c0, c1, c2, c3, _⟩ := cellsT ht;go_enter Tryz.func38, Tryz.ntmps38;go_wp2_with fail;go_ret;exact ⟨rfl, rfl⟩
def BackR (w0 : World) (R : List Nat) (w : World) (d s n : Nat) : Prop := Below w0.heap.size w0 w ∧ ∃ FD FS dk st, DS w d s dk st FD FS ∧ dk.S.length = n ∧ st.h = fmtH ∧ st.fresh = [] ∧ ∀ k ∈ R, k < w.heap.size
theorem BackR.below {w0 w w' : World} {R : List Nat} {d s n : Nat} (h : BackR w0 R w d s n) (b : Below w.heap.size w w') : BackR w0 R w' d s n := by
 obtain ⟨h1, FD, FS, dk, st, h2, h3, h4, h5, h6⟩ := h;exact ⟨h1.trans (b.mono h1.size), FD, FS, dk, st, h2.below b, h3, h4, h5, fun k hk => Nat.lt_of_lt_of_le (h6 k hk) b.size⟩
theorem back_left {w0 w : World} {R : List Nat} {d s n : Nat} (h : BackR w0 R w d s n) :
  Calls Tryz.prog 21 #[.pointer (some ⟨s, 0, none⟩)] w fun e w' => e = .returned (.int .i64 ((n : Int) - 2)) ∧ Below w.heap.size w w' := by
 obtain ⟨h1, FD, FS, dk, st, h2, h3, h4, h5, h6⟩ := h;refine (left_is w s d dk st FD FS h2.dk h2.sto).mono ?_;rintro e w' ⟨rfl, hw⟩;refine ⟨?_, hw⟩;unfold leftN;rw [h4, fmt_cnt, h3, h5];simp
theorem drop_T {w0 w : World} {R : List Nat} {t d s n : Nat} {root : Int} {E : List Ent} (h : TrR w0 (t :: R) w d s n root E) (ht : w.heap[t]? = some (txC s root 0 false)) (ht0 : w0.heap.size ≤ t) :
  Calls Tryz.prog 33 #[.pointer (some ⟨t, 0, none⟩)] w fun e w' => e = .returned (.tuple #[]) ∧ BackR w0 (t :: R) w' d s n ∧ w'.heap[t]? = some (txC s root 0 true) ∧ ∀ k ∈ R, k ≠ t → w'.heap[k]? = w.heap[k]? := by
 obtain ⟨c0, c1, c2, c3, g⟩ := cellsT ht;have g3 := g 3;obtain ⟨w1, hw1⟩ : ∃ w1, w.setCell ⟨t, 3, none⟩ (.bool true) = w1 := ⟨_, rfl⟩
 have f1 : Frm (fun k => k = t) w w1 := by rw [← hw1]; exact set_frmT _
 have h1 := h.turn (by simp) ht0 f1
 have k1 : w1.heap[t]? = some (txC s root 0 true) := by
  unfold txC at ht ⊢;rw [← hw1, heap_setCell_same _ _ 3 _ _ _ ht]
  rfl
 obtain ⟨d0, d1, d2, d3, _⟩ := cellsT k1
 have RB : Hid (Calls Tryz.prog 25 #[.pointer (some ⟨s, 0, none⟩)] w1 fun e w' => e = .returned (.tuple #[]) ∧ BackR w0 (t :: R) w' d s n ∧ w'.heap[t]? = some (txC s root 0 true) ∧ ∀ k ∈ R, k ≠ t → w'.heap[k]? = w.heap[k]?) := Hd (by
  have hlt := h.lt;obtain ⟨hb, F, ⟨dk, st, ⟨FD, FS, hd, he⟩, G, hT, hl, hh⟩, hF, hR⟩ := h1;refine (rollback_is w1 s d st FS hd.sto).mono ?_;rintro e w' ⟨rfl, hs, hf⟩;have hx : ∀ k, FS k → F k := fun k hk => (he k).2 (.inr hk)
  have kp : ∀ k ∈ t :: R, w'.heap[k]? = w1.heap[k]? := fun k hk => hf.block k (hR k hk).1 (fun hy => (hR k hk).2 (hx k hy))
  refine ⟨rfl, ⟨hb.trans (hf.below (fun k hk => hF k (hx k hk)) hb.size), FD, FS, dk, st.back, ⟨hd.dk.frm hf (fun k hk hy => hd.apart k hk hy), hs, hd.apart⟩, hl, hh, rfl, fun k hk => Nat.lt_of_lt_of_le (hR k hk).1 hf.size⟩, (kp t (by simp)).trans k1, fun k hk hne => (kp k (by simp [hk])).trans (f1.block k (hlt k (by simp [hk])) hne)⟩)
 have HW := Hd hw1;clear h ht ht0 g f1 h1 k1 hw1;go_enter Tryz.func33, Tryz.ntmps33;go_upto_region 2 with fail
 rw [HW.out];clear c0 c1 c2 c3 g3 HW;go_wp2_with fail;refine RB.out.mono ?_;rintro e w6 ⟨rfl, h⟩;have FIN := Hd h;clear h RB d0 d1 d2 d3;go_wp2_with fail
 go_end0
 exact ⟨rfl, FIN.out⟩
theorem doOver_get (w : World) (t s : Nat) (root e : Int) (caps : Array Value) (hc : w.heap[t]? = some (txC s root e true)) :
  Calls Tryz.prog 62 #[.pointer (some ⟨t, 0, none⟩), .func (.func 68) #[] caps] w fun e w' => e = .returned (.bool false) ∧ w = w' := by
 obtain ⟨c0, c1, c2, c3, fz⟩ := cellsT hc;clear hc fz;go_enter Tryz.func62, Tryz.ntmps62;go_wp2_with fail;go_ret;exact ⟨rfl, rfl⟩
theorem getOver_T {w : World} {t s : Nat} {root e key : Int} (ht : w.heap[t]? = some (txC s root e true)) :
  Calls Tryz.prog 37 #[.pointer (some ⟨t, 0, none⟩), .int .u64 key] w fun e w' => e = .returned (.tuple #[.string ⟨#[]⟩, .bool false]) ∧ Below w.heap.size w w' := by
 obtain ⟨x4, hx4⟩ : ∃ x4, (((w.alloc (.cells #[.pointer (some ⟨t, 0, none⟩)] 67)).alloc (.cells #[.int .u64 key] 28)).alloc (.cells #[.string ⟨#[]⟩] 9)).alloc (.cells #[.bool false] 4) = x4 := ⟨_, rfl⟩
 have hlt : t < w.heap.size := (Array.getElem?_eq_some_iff.1 ht).1;obtain ⟨x1, hx1⟩ : ∃ x1, w.alloc (.cells #[.pointer (some ⟨t, 0, none⟩)] 67) = x1 := ⟨_, rfl⟩
 obtain ⟨x2, hx2⟩ : ∃ x2, x1.alloc (.cells #[.int .u64 key] 28) = x2 := ⟨_, rfl⟩
 obtain ⟨x3, hx3⟩ : ∃ x3, x2.alloc (.cells #[.string ⟨#[]⟩] 9) = x3 := ⟨_, rfl⟩
 have HX := Hd hx4;rw [hx1, hx2, hx3] at hx4;have z1 : x1.heap.size = w.heap.size + 1 := by rw [← hx1]; simp
 have z2 : x2.heap.size = w.heap.size + 2 := by rw [← hx2]; simp [z1]
 have z3 : x3.heap.size = w.heap.size + 3 := by rw [← hx3]; simp [z2]
 have b1 : Below w.heap.size w x1 := by rw [← hx1]; exact below_made _ _
 have b2 : Below x1.heap.size x1 x2 := by rw [← hx2]; exact below_made _ _
 have b3 : Below x2.heap.size x2 x3 := by rw [← hx3]; exact below_made _ _
 have b4 : Below x3.heap.size x3 x4 := by rw [← hx4]; exact below_made _ _
 have m1 : x1.heap[w.heap.size]? = some (.cells #[.pointer (some ⟨t, 0, none⟩)] 67) := by rw [← hx1]; exact heap_alloc_new w _
 have m3 : x3.heap[w.heap.size + 2]? = some (.cells #[.string ⟨#[]⟩] 9) := by rw [← hx3, ← z2]; exact heap_alloc_new x2 _
 have m4 : x4.heap[w.heap.size + 3]? = some (.cells #[.bool false] 4) := by rw [← hx4, ← z3]; exact heap_alloc_new x3 _
 have bw : Below w.heap.size w x4 := ((b1.trans (b2.mono (by omega))).trans (b3.mono (by omega))).trans (b4.mono (by omega));have bx := (box1 ((b4.block _ (by omega)).trans ((b3.block _ (by omega)).trans ((b2.block _ (by omega)).trans m1)))).1;have cv := (box1 ((b4.block _ (by omega)).trans m3)).1;have ci := (box1 m4).1;have DO := Hd (fun caps => doOver_get x4 t s root e caps ((bw.block t hlt).trans ht));have BW := Hd bw;clear ht hx1 hx2 hx3 hx4 z1 z2 z3 b1 b2 b3 b4 m1 m3 m4 bw hlt;go_enter Tryz.func37, Tryz.ntmps37;go_upto_region 3 with fail
 try simp only [Nat.add_assoc, Nat.reduceAdd, World.heap_size_alloc]
 rw [HX.out];go_wp2_with fail;refine (DO.out _).mono ?_;rintro e' w6 ⟨rfl, rfl⟩;go_wp2_with fail
 go_quiet (fail)
 have F2 : Hid (Below w.heap.size w (x4.drewN nq)) := Hd ⟨BW.out.os, BW.out.tape, BW.out.output, BW.out.size, BW.out.block⟩;clear BW DO;go_wp2_with fail;go_ret2;exact ⟨rfl, F2.out⟩










def getW : List (Int × Value) → Int → Option Value
 | [], _ => none
 | p :: L, k => if p.1 = k then some p.2 else getW L k
def setW : List (Int × Value) → Int → Value → List (Int × Value)
 | [], k, v => [(k, v)]
 | p :: L, k, v => if p.1 = k then (k, v) :: L else p :: setW L k v
theorem getW_set (L : List (Int × Value)) (k : Int) (v : Value) (k' : Int) : getW (setW L k v) k' = if k' = k then some v else getW L k' := by
 induction L with
 | nil =>
  simp only [setW, getW]
  by_cases h : k = k'
  ·rw [if_pos h, if_pos h.symm]
  ·rw [if_neg h, if_neg (Ne.symm h)]
 | cons p L ih =>
  simp only [setW]
  by_cases h : p.1 = k
  ·rw [if_pos h]
   simp only [getW]
   by_cases h2 : k = k'
   ·rw [if_pos h2, if_pos h2.symm]
   ·rw [if_neg h2, if_neg (Ne.symm h2), if_neg (by rw [h]; exact h2)]
  ·rw [if_neg h]
   simp only [getW, ih]
   by_cases h2 : p.1 = k'
   ·rw [if_pos h2, if_neg (by rw [← h2]; exact h), if_pos h2]
   ·rw [if_neg h2, if_neg h2]
def delW : List (Int × Value) → Int → List (Int × Value)
 | [], _ => []
 | p :: L, k => if p.1 = k then L else p :: delW L k
theorem mem_delW {L : List (Int × Value)} {k x : Int} (h : x ∈ (delW L k).map (·.1)) : x ∈ L.map (·.1) := by
 induction L with
 | nil => exact h
 | cons p L ih =>
  simp only [delW] at h
  split at h
  ·exact List.mem_cons_of_mem _ h
  ·rw [List.map_cons] at h ⊢
   rcases List.mem_cons.1 h with h | h
   ·exact h ▸ List.mem_cons_self ..
   ·exact List.mem_cons_of_mem _ (ih h)
theorem delW_nodup {L : List (Int × Value)} (k : Int) (h : (L.map (·.1)).Nodup) : ((delW L k).map (·.1)).Nodup := by
 induction L with
 | nil => exact h
 | cons p L ih =>
  rw [List.map_cons, List.nodup_cons] at h;simp only [delW]
  split
  ·exact h.2
  ·rw [List.map_cons, List.nodup_cons]
   exact ⟨fun hx => h.1 (mem_delW hx), ih h.2⟩
theorem mem_setW {L : List (Int × Value)} {k x : Int} {v : Value} : x ∈ (setW L k v).map (·.1) ↔ x = k ∨ x ∈ L.map (·.1) := by
 induction L with
 | nil => simp [setW]
 | cons p L ih =>
  simp only [setW]
  split
  ·rename_i hp
   simp only [List.map_cons, List.mem_cons, hp];exact ⟨fun h => h.elim .inl (fun h => .inr (.inr h)), fun h => h.elim .inl id⟩
  ·simp only [List.map_cons, List.mem_cons, ih]
   exact ⟨fun h => h.elim (fun h => .inr (.inl h)) (fun h => h.elim .inl (fun h => .inr (.inr h))), fun h => h.elim (fun h => .inr (.inl h)) (fun h => h.elim .inl (fun h => .inr (.inr h)))⟩
theorem setW_nodup {L : List (Int × Value)} (k : Int) (v : Value) (h : (L.map (·.1)).Nodup) : ((setW L k v).map (·.1)).Nodup := by
 induction L with
 | nil => simp [setW]
 | cons p L ih =>
  rw [List.map_cons, List.nodup_cons] at h;simp only [setW]
  split
  ·rename_i hp
   rw [List.map_cons, List.nodup_cons];exact ⟨hp ▸ h.1, h.2⟩
  ·rename_i hp
   rw [List.map_cons, List.nodup_cons];refine ⟨fun hx => ?_, ih h.2⟩
   rcases mem_setW.1 hx with hx | hx
   ·exact hp hx
   ·exact h.1 hx
theorem getW_mem {L : List (Int × Value)} {k : Int} : (getW L k).isSome = true ↔ k ∈ L.map (·.1) := by
 induction L with
 | nil => simp [getW]
 | cons p L ih =>
  simp only [getW, List.map_cons, List.mem_cons]
  split
  ·rename_i hp; simp [hp]
  ·rename_i hp
   rw [ih];exact ⟨.inr, fun h => h.elim (fun h => absurd h.symm hp) id⟩
theorem getW_del {L : List (Int × Value)} (h : (L.map (·.1)).Nodup) (k k' : Int) : getW (delW L k) k' = if k' = k then none else getW L k' := by
 induction L with
 | nil => simp [delW, getW]
 | cons p L ih =>
  rw [List.map_cons, List.nodup_cons] at h;simp only [delW]
  by_cases hp : p.1 = k
  ·rw [if_pos hp]
   by_cases hk : k' = k
   ·rw [if_pos hk]
    cases hg : getW L k' with
    | none => rfl
    | some v =>
     exfalso
     refine h.1 ?_;rw [hp, ← hk];exact getW_mem.1 (by rw [hg]; rfl)
   ·rw [if_neg hk]
    simp only [getW];rw [if_neg (fun (e : p.1 = k') => hk (e.symm.trans hp))]
  ·rw [if_neg hp]
   simp only [getW, ih h.2]
   by_cases h2 : p.1 = k'
   ·rw [if_pos h2, if_pos h2, if_neg (fun e => hp (h2.trans e))]
   ·rw [if_neg h2, if_neg h2]
def EntW (L : List (Int × Value)) (l : List MapEntry) : Prop := l.map (fun e => (e.key, e.val)) = L.map (fun p => (Value.int .u64 p.1, p.2))
def MapW (w : World) (m : Nat) (L : List (Int × Value)) : Prop := ∃ es clock, w.heap[m]? = some (.map es clock) ∧ EntW L es.toList
theorem MapW.lt {w : World} {m : Nat} {L : List (Int × Value)} (h : MapW w m L) : m < w.heap.size := by
 obtain ⟨es, c, hb, _⟩ := h;exact (Array.getElem?_eq_some_iff.1 hb).1
theorem MapW.kept {w w' : World} {m : Nat} {L : List (Int × Value)} (h : MapW w m L) (e : w'.heap[m]? = w.heap[m]?) : MapW w' m L := by
 obtain ⟨es, c, hb, he⟩ := h;exact ⟨es, c, e.trans hb, he⟩
theorem MapW.below {w w' : World} {m : Nat} {L : List (Int × Value)} (h : MapW w m L) (hb : Below w.heap.size w w') : MapW w' m L := h.kept (hb.block _ h.lt)
def dW : TypeDesc := .int .u64
theorem same_W (a b : Int) : Instr.sameNow dW (.int .u64 a) (.int .u64 b) = some (a == b) := by simp [Instr.sameNow, dW]
theorem findW (n : Int) : ∀ (l : List MapEntry) (L : List (Int × Value)) (i : Nat), EntW L l →
  (Instr.findNow dW (.int .u64 n) l i = some none ∧ getW L n = none ∧ ∀ v, setW L n v = L ++ [(n, v)]) ∨ ∃ j v, Instr.findNow dW (.int .u64 n) l i = some (some (i + j, v)) ∧ j < l.length ∧ getW L n = some v ∧ L.map (·.1) = L.map (·.1) ∧ ∀ v', setW L n v' = L.set j (n, v')
 | [], L, _, h => by
  cases L with
  | nil => exact .inl ⟨rfl, rfl, fun _ => rfl⟩
  | cons p L => simp [EntW] at h
 | e :: l, [], _, h => by simp [EntW] at h
 | e :: l, p :: L, i, h => by
  simp only [EntW, List.map_cons, List.cons.injEq, Prod.mk.injEq] at h
  by_cases hp : p.1 = n
  ·refine .inr ⟨0, p.2, ?_, by simp, ?_, rfl, ?_⟩
   ·have hs : Instr.sameNow dW (.int .u64 n) e.key = some true := by rw [h.1.1, same_W, hp]; simp
    simp only [Instr.findNow, hs, h.1.2, Nat.add_zero]
   ·simp only [getW]; rw [if_pos hp]
   ·intro v'; simp only [setW]; rw [if_pos hp]; rfl
  ·have hs : Instr.sameNow dW (.int .u64 n) e.key = some false := by
    rw [h.1.1, same_W]
    congr 1
    rw [beq_eq_false_iff_ne];exact Ne.symm hp
   rcases findW n l L (i + 1) h.2 with ⟨h1, h2, h3⟩ | ⟨j, v, h1, h2, h3, _, h4⟩
   ·refine .inl ⟨by simp only [Instr.findNow, hs]; exact h1, by simp only [getW]; rw [if_neg hp]; exact h2, fun v => ?_⟩
    simp only [setW]; rw [if_neg hp, h3]; rfl
   ·refine .inr ⟨j + 1, v, by simp only [Instr.findNow, hs]; rw [h1]; congr 3; omega, by simpa using h2, by simp only [getW]; rw [if_neg hp]; exact h3, rfl, fun v' => ?_⟩
    simp only [setW]; rw [if_neg hp, h4]; rfl
theorem find_del (n : Int) : ∀ (l : List MapEntry) (L : List (Int × Value)) (i : Nat), EntW L l →
  (Instr.findNow dW (.int .u64 n) l i = some none ∧ delW L n = L) ∨ ∃ j v, Instr.findNow dW (.int .u64 n) l i = some (some (i + j, v)) ∧ j < l.length ∧ delW L n = L.eraseIdx j
 | [], L, _, h => by
  cases L with
  | nil => exact .inl ⟨rfl, rfl⟩
  | cons p L => simp [EntW] at h
 | e :: l, [], _, h => by simp [EntW] at h
 | e :: l, p :: L, i, h => by
  simp only [EntW, List.map_cons, List.cons.injEq, Prod.mk.injEq] at h
  by_cases hp : p.1 = n
  ·refine .inr ⟨0, p.2, ?_, by simp, ?_⟩
   ·have hs : Instr.sameNow dW (.int .u64 n) e.key = some true := by rw [h.1.1, same_W, hp]; simp
    simp only [Instr.findNow, hs, h.1.2, Nat.add_zero]
   ·simp only [delW]; rw [if_pos hp]; rfl
  ·have hs : Instr.sameNow dW (.int .u64 n) e.key = some false := by
    rw [h.1.1, same_W]
    congr 1
    rw [beq_eq_false_iff_ne];exact Ne.symm hp
   rcases find_del n l L (i + 1) h.2 with ⟨h1, h2⟩ | ⟨j, v, h1, h2, h3⟩
   ·refine .inl ⟨by simp only [Instr.findNow, hs]; exact h1, ?_⟩
    simp only [delW]; rw [if_neg hp, h2]
   ·refine .inr ⟨j + 1, v, by simp only [Instr.findNow, hs]; rw [h1]; congr 3; omega, by simpa using h2, ?_⟩
    simp only [delW]; rw [if_neg hp, h3]; rfl
section
variable {P : Program} {w : World} {m : Nat} {L : List (Int × Value)} {t k e : TypeId} (ht : P.underlying t = some (.map k e)) (hk : P.underlying k = some (.int .u64))
include ht hk
theorem lookupW (h : MapW w m L) (n : Int) (z : Value) (hz : (zeroValue e).run P w = .ok z w) (ok : Bool) :
  (Instr.lookup t (.map (some m)) (.int .u64 n) ok).run P w = .ok (if ok then .tuple #[((getW L n).getD z), .bool (getW L n).isSome] else ((getW L n).getD z)) w := by
 obtain ⟨es, c, hb, he⟩ := h;have h1 := MapKept.run_getObj_map (P := P) hb;have h2 := MapKept.run_checkKey (P := P) (w := w) hk (k := .int .u64 n) (by first | rfl | trivial | exact ⟨_, rfl⟩) es.isEmpty 9999
 rcases findW n es.toList L 0 he with ⟨f1, f2, _⟩ | ⟨j, v, f1, _, f2, _, _⟩
 ·have h3 := MapKept.run_findKey (P := P) (w := w) hk f1
  rw [f2]
  cases ok <;> simp [Instr.lookup, run_underlying ht, h1, h2, h3, hz]
 ·have h3 := MapKept.run_findKey (P := P) (w := w) hk f1
  rw [f2]
  cases ok <;> simp [Instr.lookup, run_underlying ht, h1, h2, h3]
theorem updateW (h : MapW w m L) (n : Int) (v : Value) :
  ∃ o, (Instr.mapUpdate t (.map (some m)) (.int .u64 n) v).run P w = .ok () { w with heap := w.heap.setIfInBounds m o } ∧ MapW { w with heap := w.heap.setIfInBounds m o } m (setW L n v) := by
 obtain ⟨es, c, hb, he⟩ := h;have h1 := MapKept.run_getObj_map (P := P) hb;have h2 := MapKept.run_checkKey (P := P) (w := w) hk (k := .int .u64 n) (by first | rfl | trivial | exact ⟨_, rfl⟩) false 9999
 rcases findW n es.toList L 0 he with ⟨f1, f2, f3⟩ | ⟨j, u, f1, fj, f2, _, f3⟩
 ·have h3 := MapKept.run_findKey (P := P) (w := w) hk f1
  have h4 := MapKept.run_setObj_map (P := P) (.map (es.push { key := .int .u64 n, val := v, born := c }) (c + 1)) hb;refine ⟨_, by simp [Instr.mapUpdate, run_underlying ht, h1, h2, h3, h4]; rfl, ?_⟩;refine ⟨_, _, (MapKept.heap_set hb).1, ?_⟩;unfold EntW at *;rw [f3, Array.toList_push, List.map_append, he, List.map_append]
  rfl
 ·have h3 := MapKept.run_findKey (P := P) (w := w) hk f1
  rw [Nat.zero_add] at h3
  have hke : ∀ e, es[j]? = some e → e.key = .int .u64 n := by
   intro e hej;have hl : L.length = es.toList.length := by have := congrArg List.length he; simpa using this.symm
   have h5 := f3 v;have e1 : (es.toList.map (fun e => (e.key, e.val)))[j]? = some (e.key, e.val) := by rw [List.getElem?_map, Array.getElem?_toList, hej]; rfl
   rw [he, List.getElem?_map] at e1;have hjL : j < L.length := by rw [hl]; exact fj
   rw [List.getElem?_eq_getElem hjL] at e1;simp only [Option.map_some, Option.some.injEq, Prod.mk.injEq] at e1
   have hn : L[j].1 = n := by
    have : ∀ (l : List MapEntry) (L : List (Int × Value)) (i j : Nat) (x : Value), EntW L l → Instr.findNow dW (.int .u64 n) l i = some (some (i + j, x)) → ∀ h : j < L.length, L[j].1 = n := by
     intro l
     induction l with
     | nil => intro L i j x _ hf; simp [Instr.findNow] at hf
     | cons a l ih =>
      intro L i j x hE hf hj
      cases L with
      | nil => cases hj
      | cons p L =>
       simp only [EntW, List.map_cons, List.cons.injEq, Prod.mk.injEq] at hE;simp only [Instr.findNow] at hf;rw [hE.1.1, same_W] at hf
       by_cases hp : n = p.1
       ·simp [hp] at hf
        obtain rfl : j = 0 := by omega
        exact hp.symm
       ·rw [show (n == p.1) = false from by simpa using hp] at hf
        simp only at hf
        cases j with
        | zero =>
         exfalso
         have hgt : ∀ (l : List MapEntry) (i : Nat) (r : Nat) (x : Value), Instr.findNow dW (.int .u64 n) l i = some (some (r, x)) → i ≤ r := by
          intro l
          induction l with
          | nil => intro i r x h; simp [Instr.findNow] at h
          | cons b l ih =>
           intro i r x h;simp only [Instr.findNow] at h
           split at h
           ·simp at h; omega
           ·have := ih _ _ _ h; omega
           ·cases h
         have := hgt l (i + 1) (i + 0) x hf;omega
        | succ j => exact ih L (i + 1) j x hE.2 (by rw [show i + 1 + j = i + (j + 1) from by omega]; exact hf) (by simpa using hj)
    exact this es.toList L 0 j _ he f1 hjL
   rw [← e1.1, hn]
  have h4 := MapKept.run_setObj_map (P := P) (.map (es.modify j fun e => { e with key := .int .u64 n, val := v }) c) hb
  have h6 : (Instr.keyThatStays (((es[j]?).map (·.key)).getD (.int .u64 n)) (.int .u64 n)).run P w = .ok (.int .u64 n) w := by
   have : ((es[j]?).map (·.key)).getD (.int .u64 n) = .int .u64 n := by
    cases hq : es[j]? with
    | none => rfl
    | some e => simp [hke e hq]
   rw [this];exact MapKept.run_keyThatStays (d := dW) (by first | rfl | trivial | exact ⟨_, rfl⟩)
  refine ⟨_, by simp [Instr.mapUpdate, run_underlying ht, h1, h2, h3, h6, h4]; rfl, ?_⟩;refine ⟨_, _, (MapKept.heap_set hb).1, ?_⟩;unfold EntW at *;rw [f3 v, List.map_set, ← he];apply List.ext_getElem?;intro i;rw [List.getElem?_map, Array.getElem?_toList, Array.getElem?_modify, List.getElem?_set]
  by_cases hij : j = i
  ·subst hij
   rw [if_pos rfl, if_pos rfl, if_pos (by simpa using fj)];have : j < es.size := by simpa using fj
   rw [Array.getElem?_eq_getElem this]
   rfl
  ·rw [if_neg hij, if_neg hij, List.getElem?_map, Array.getElem?_toList]
omit hk in
theorem lenW (h : MapW w m L) (ty : TypeId) : (Builtin.len_ #[t] ty #[.map (some m)]).run P w = .ok (.int .i64 (L.length : Int)) w := by
 obtain ⟨es, c, hb, he⟩ := h;have h1 := MapKept.run_getObj_map (P := P) hb;have hl : es.size = L.length := by have := congrArg List.length he; simpa using this
 simp [Builtin.len_, run_underlying ht, h1, goInt, hl]
theorem updateWB (h : MapW w m L) (n : Int) (v : Value) :
  ∃ w', (Instr.mapUpdate t (.map (some m)) (.int .u64 n) v).run P w = .ok () w' ∧ MapW w' m (setW L n v) ∧ Below m w w' ∧ w'.heap.size = w.heap.size ∧ Frm (fun x => x = m) w w' := by
 obtain ⟨o, h1, h2⟩ := updateW ht hk h n v;obtain ⟨es, c, hb, _⟩ := h;refine ⟨_, h1, h2, ⟨rfl, rfl, rfl, by simp, fun k hk => (MapKept.heap_set hb).2 k (Nat.ne_of_lt hk)⟩, by simp, (Frm.refl _ w).setObj m o (.inl rfl)⟩
theorem deleteWB (h : MapW w m L) (n : Int) (ty : TypeId) :
  ∃ w', (Builtin.delete_ #[t, k] ty #[.map (some m), .int .u64 n]).run P w = .ok (.tuple #[]) w' ∧ MapW w' m (delW L n) ∧ Below m w w' ∧ w'.heap.size = w.heap.size ∧ Frm (fun x => x = m) w w' := by
 obtain ⟨es, c, hb, he⟩ := h;have h1 := MapKept.run_getObj_map (P := P) hb;have h2 := MapKept.run_checkKey (P := P) (w := w) hk (k := .int .u64 n) (by first | rfl | trivial | exact ⟨_, rfl⟩) es.isEmpty 9999;have F : ∀ o, Frm (fun x => x = m) w { w with heap := w.heap.setIfInBounds m o } := fun o => (Frm.refl _ w).setObj m o (.inl rfl)
 rcases find_del n es.toList L 0 he with ⟨f1, f2⟩ | ⟨j, u, f1, fj, f2⟩
 ·have h3 := MapKept.run_findKey (P := P) (w := w) hk f1
  have h4 := MapKept.run_setObj_map (P := P) (.map es c) hb;refine ⟨_, by simp [Builtin.delete_, run_underlying ht, h1, h2, h3, h4]; rfl, ?_⟩;exact ⟨⟨_, _, (MapKept.heap_set hb).1, by rw [f2]; exact he⟩, ⟨rfl, rfl, rfl, by simp, fun k hk => (MapKept.heap_set hb).2 k (Nat.ne_of_lt hk)⟩, by simp, F _⟩
 ·have h3 := MapKept.run_findKey (P := P) (w := w) hk f1
  rw [Nat.zero_add] at h3;have h4 := MapKept.run_setObj_map (P := P) (.map (es.eraseIdxIfInBounds j) c) hb;refine ⟨_, by simp [Builtin.delete_, run_underlying ht, h1, h2, h3, h4]; rfl, ?_⟩;refine ⟨⟨_, _, (MapKept.heap_set hb).1, ?_⟩, ⟨rfl, rfl, rfl, by simp, fun k hk => (MapKept.heap_set hb).2 k (Nat.ne_of_lt hk)⟩, by simp, F _⟩;unfold EntW at *
  have e1 : (es.eraseIdxIfInBounds j).toList = es.toList.eraseIdx j := by
   unfold Array.eraseIdxIfInBounds;have : j < es.size := by simpa using fj
   rw [dif_pos this, Array.toList_eraseIdx]
  have me : ∀ {α β : Type} (f : α → β) (l : List α) (i : Nat), (l.eraseIdx i).map f = (l.map f).eraseIdx i := by
   intro α β f l
   induction l with
   | nil => intro i; simp
   | cons a l ih => intro i; cases i with | zero => rfl | succ i => simp [ih]
  rw [e1, f2, me, me, he]
end
theorem bool_zero (P : Program) (w : World) : (zeroValue 4).run Tryz.prog w = .ok (.bool false) w := by kernel_rfl
end Go.Proofs.YtmomlhiokggfbaaGreatDoor
