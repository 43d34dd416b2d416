/-
 TrFr, TrSn, TrB, TrPs, Tx, Tg, TrEt, Td, Cm, Tk, RefSl.
-/
import Derived.Test.YtmomlhiokggfbaaGreatDoorL18
import Derived.Maps.OwnIn
import Derived.Test.YtmomlhiokggfbaaGreatDoorL03
import Derived.Test.YtmomlhiokggfbaaGreatDoorL12
import Derived.BigQuiet
import Derived.Test.YtmomlhiokggfbaaGreatDoorL07
namespace Go.Proofs.YtmomlhiokggfbaaGreatDoor
open Go.RowKit
set_option maxRecDepth 20000
set_option maxHeartbeats 12800000
set_option linter.unusedVariables false
set_option linter.unusedSimpArgs false
attribute [local go_sem] Oper.semAt_some
structure BoxF (w : World) (g : Nat) (p dp key : Int) (b0 b1 b2 b3 : Nat) : Prop where
 v : w.heap[b0]? = some (.cells #[.pointer (some ⟨g, 0, none⟩)] 138)
 p : w.heap[b1]? = some (.cells #[.int .i64 p] 3)
 d : w.heap[b2]? = some (.cells #[.int .i64 dp] 3)
 k : w.heap[b3]? = some (.cells #[.int .u64 key] 28)
theorem from_is (w : World) (g : Nat) (p dp key : Int) :
  Calls Tryz.prog 52 #[.pointer (some ⟨g, 0, none⟩), .int .i64 p, .int .i64 dp, .int .u64 key] w fun e w' => e = .returned (.func (.func 90) #[] #[.pointer (some ⟨w.heap.size, 0, none⟩), .pointer (some ⟨w.heap.size + 1, 0, none⟩), .pointer (some ⟨w.heap.size + 2, 0, none⟩), .pointer (some ⟨w.heap.size + 3, 0, none⟩)]) ∧ BoxF w' g p dp key w.heap.size (w.heap.size + 1) (w.heap.size + 2) (w.heap.size + 3) ∧ Below w.heap.size w w' ∧ w'.heap.size = w.heap.size + 4 := by
 obtain ⟨x0, hx0⟩ : ∃ x, w.alloc (.cells #[.pointer (some ⟨g, 0, none⟩)] 138) = x := ⟨_, rfl⟩
 obtain ⟨x1, hx1⟩ : ∃ x, x0.alloc (.cells #[.int .i64 p] 3) = x := ⟨_, rfl⟩
 obtain ⟨x2, hx2⟩ : ∃ x, x1.alloc (.cells #[.int .i64 dp] 3) = x := ⟨_, rfl⟩
 obtain ⟨wa, hwa⟩ : ∃ x, x2.alloc (.cells #[.int .u64 key] 28) = x := ⟨_, rfl⟩
 have SZ : Hid (x0.heap.size = w.heap.size + 1 ∧ x1.heap.size = w.heap.size + 2 ∧ x2.heap.size = w.heap.size + 3) := Hd (by
  have s0 : x0.heap.size = w.heap.size + 1 := by rw [← hx0]; simp
  have s1 : x1.heap.size = w.heap.size + 2 := by rw [← hx1]; simp; omega
  have s2 : x2.heap.size = w.heap.size + 3 := by rw [← hx2]; simp; omega
  exact ⟨s0, s1, s2⟩)
 have FIN : Hid (BoxF wa g p dp key w.heap.size (w.heap.size + 1) (w.heap.size + 2) (w.heap.size + 3) ∧ Below w.heap.size w wa ∧ wa.heap.size = w.heap.size + 4) := by
  obtain ⟨s0, s1, s2⟩ := SZ.out;have n0 := han w (.cells #[.pointer (some ⟨g, 0, none⟩)] 138);have n1 := han x0 (.cells #[.int .i64 p] 3);have n2 := han x1 (.cells #[.int .i64 dp] 3);have n3 := han x2 (.cells #[.int .u64 key] 28);rw [hx0] at n0;rw [hx1, s0] at n1;rw [hx2, s1] at n2;rw [hwa, s2] at n3;have t1 := below_made x0 (.cells #[.int .i64 p] 3);have t2 := below_made x1 (.cells #[.int .i64 dp] 3);have t3 := below_made x2 (.cells #[.int .u64 key] 28);have t0 := below_made w (.cells #[.pointer (some ⟨g, 0, none⟩)] 138);rw [hx0] at t0;rw [hx1] at t1
  rw [hx2] at t2;rw [hwa] at t3;refine Hd ⟨⟨?_, ?_, ?_, n3⟩, ?_, ?_⟩
  ·exact (t3.block _ (by omega)).trans ((t2.block _ (by omega)).trans ((t1.block _ (by omega)).trans n0))
  ·exact (t3.block _ (by omega)).trans ((t2.block _ (by omega)).trans n1)
  ·exact (t3.block _ (by omega)).trans n2
  ·exact ((t0.trans (t1.mono (by omega))).trans (t2.mono (by omega))).trans (t3.mono (by omega))
  ·rw [← hwa]; simp; omega
 go_enter Tryz.func52, Tryz.ntmps52;go_wp2_with fail;go_ret;rw [SZ.out.1, SZ.out.2.1, SZ.out.2.2];exact ⟨rfl, FIN.out⟩
def encE (e : Ent) : Array Value := #[.agg #[.int .u64 e.1, .string e.2]]
def FF (F : Nat → Prop) (b0 b1 b2 b3 : Nat) (k : Nat) : Prop := F k ∨ k = b0 ∨ k = b1 ∨ k = b2 ∨ k = b3
theorem BoxF.kept {w w' : World} {g : Nat} {p dp key : Int} {b0 b1 b2 b3 : Nat} (h : BoxF w g p dp key b0 b1 b2 b3) (e0 : w'.heap[b0]? = w.heap[b0]?) (e1 : w'.heap[b1]? = w.heap[b1]?) (e2 : w'.heap[b2]? = w.heap[b2]?) (e3 : w'.heap[b3]? = w.heap[b3]?) : BoxF w' g p dp key b0 b1 b2 b3 := ⟨e0.trans h.v, e1.trans h.p, e2.trans h.d, e3.trans h.k⟩
theorem BoxF.lt {w : World} {g : Nat} {p dp key : Int} {b0 b1 b2 b3 : Nat} (h : BoxF w g p dp key b0 b1 b2 b3) : b0 < w.heap.size ∧ b1 < w.heap.size ∧ b2 < w.heap.size ∧ b3 < w.heap.size := ⟨(zl h.v), (zl h.p), (zl h.d), (zl h.k)⟩
def scQ (key : Int) (Q : List Kid) : List Ent := (Q.map fun q => scanE key (entsM q.F)).flatten
theorem scQ_at {key : Int} {Q : List Kid} {m : Nat} {q : Kid} (h : Q[m]? = some q) : scQ key Q = scQ key (Q.take m) ++ (scanE key (entsM q.F) ++ scQ key (Q.drop (m + 1))) ∧ scQ key (Q.take (m + 1)) = scQ key (Q.take m) ++ scanE key (entsM q.F) := by
 obtain ⟨hm, rfl⟩ := List.getElem?_eq_some_iff.1 h;unfold scQ;constructor
 ·conv => lhs; rw [← List.take_append_drop m Q, List.drop_eq_getElem_cons hm]
  rw [List.map_append, List.flatten_append, List.map_cons, List.flatten_cons]
 ·rw [List.take_succ_eq_append_getElem hm, List.map_append, List.flatten_append]
  simp
theorem zd_step {α : Type} {Z : List α} {i m : Nat} {x : α} (hi : i ≤ m) (hx : Z[m]? = some x) : (Z.take (m + 1)).drop i = (Z.take m).drop i ++ [x] := by
 obtain ⟨hm, rfl⟩ := List.getElem?_eq_some_iff.1 hx;rw [List.take_succ_eq_append_getElem hm, List.drop_append_of_le_length (by rw [List.length_take]; omega)]
theorem zd_pre {α : Type} (Z : List α) (i m : Nat) : (Z.take m).drop i <+: Z.drop i := by
 have h : Z.drop i = (Z.take m).drop i ++ (Z.drop m).drop (i - (Z.take m).length) := by rw [← List.drop_append, List.take_append_drop]
 rw [h];exact List.prefix_append _ _
def noPan (Q : Exit → Act → World → Prop) : Exit → Act → World → Prop
 | .panic _, _, _ => False
 | .normal, a, w => Q .normal a w
 | .ret, a, w => Q .ret a w
 | .exit i, a, w => Q (.exit i) a w
 | .goto i, a, w => Q (.goto i) a w
 | .outgrown, a, w => Q .outgrown a w
theorem of_noPan {Q : Exit → Act → World → Prop} : ∀ e a w, noPan Q e a w → Q e a w := fun e a w h => by
 cases e
 case panic => exact h.elim
 all_goals exact h
theorem cellsE {w : World} {b : Nat} {v0 v1 : Value} {T : TypeId} (h : w.heap[b]? = some (.cells #[v0, v1] T)) : w.cell? ⟨b, 0, none⟩ = some v0 ∧ w.cell? ⟨b, 1, none⟩ = some v1 := by
 refine ⟨?_, ?_⟩ <;> (rw [cob h]; rfl)
theorem from_iter (key : Int) (h : Nat) : ∀ (w : World) (d s g : Nat) (dk : DkS) (st : ShS) (r : Nat) (F : Nat → Prop) (hT : TS w d s g dk st r F) (hu : st.up = true) (p : Int) (Fm : List Mk) (P : List Int) (ht : IsT (Rn dk) h p Fm P) (hs : SortM Fm) (dp : Int) (h1 : 1 ≤ dp) (hd : dp + h ≤ 10) (hr : r + P.length ≤ 640) (b0 b1 b2 b3 : Nat) (hb : BoxF w g p dp key b0 b1 b2 b3) (hbF : ¬ F b0 ∧ ¬ F b1 ∧ ¬ F b2 ∧ ¬ F b3),
  IterOk Tryz.prog 90 #[.pointer (some ⟨b0, 0, none⟩), .pointer (some ⟨b1, 0, none⟩), .pointer (some ⟨b2, 0, none⟩), .pointer (some ⟨b3, 0, none⟩)] encE (FF F b0 b1 b2 b3) (VP d s g dk st r F P.length) (scanE key (entsM Fm)) w := by
 induction h using Nat.strongRecOn with
 | _ h ih =>
  intro w d s g dk st r F hT hu p Fm P ht hs dp h1 hd hr b0 b1 b2 b3 hb hbF l J Jx W C hW hJ hJx hlt hltx hCG hR h0;obtain ⟨M, PM, hM, hK, hNT, rfl⟩ := ht;have hTW := hT.below hW;have hlt0 := hb.lt;have hbW := hb.kept (hW.block _ hlt0.1) (hW.block _ hlt0.2.1) (hW.block _ hlt0.2.2.1) (hW.block _ hlt0.2.2.2);obtain ⟨y, hy⟩ : ∃ y, W.heap.size = y := ⟨_, rfl⟩
  obtain ⟨W1, hW1⟩ : ∃ W1, W.alloc (.cells #[.func (.yield l) #[] #[]] 158) = W1 := ⟨_, rfl⟩
  have bW1 : Below W.heap.size W W1 := by rw [← hW1]; exact below_made _ _
  have hT1 := hTW.below bW1;have ltW := hbW.lt;have hbW1 := hbW.kept (bW1.block _ ltW.1) (bW1.block _ ltW.2.1) (bW1.block _ ltW.2.2.1) (bW1.block _ ltW.2.2.2);have VN := Hd (vnode_is W1 d s g dk st r F hT1 hu (by simp only [List.length_cons] at hr; omega) p dp (by omega) M hM);have c0 := (box1 hbW1.v).1;have c1 := (box1 hbW1.p).1;have c2 := (box1 hbW1.d).1;refine (callsIn_wide (n := 0)).1 (callsIn_of_wp_marks (F := Fence.wide) (n := 0) Tryz.func90 rfl trivial (wpIn_wide.2 ?_) rfl)
  simp only [Tryz.ntmps90, List.size_toArray, List.length_cons, List.length_nil, Nat.reduceAdd, Nat.reduceSub, Array.replicate_succ, Array.replicate_zero, List.push_toArray, List.append_toArray, List.nil_append, List.cons_append];go_upto_region 1 with fail
  go_wp2_with fail;refine VN.out.mono ?_;rintro e w2 ⟨⟨ak, av, ac, ck, cv, cc, rfl, hNR, q1, q2, q3, u1, u2⟩, hT2, hf2⟩;simp only [nodV];obtain ⟨nb, hnb⟩ : ∃ nb, w2.heap.size = nb := ⟨_, rfl⟩
  obtain ⟨w3, hw3⟩ : ∃ w3, w2.alloc (.cells #[.bool M.leaf, .slice ak M.K.length ck, .slice av M.V.length cv, .slice ac M.C.length cc] 97) = w3 := ⟨_, rfl⟩
  have s1 : W1.heap.size = y + 1 := by rw [← hW1, ← hy]; simp
  have s2 : y + 1 ≤ nb := by have := hf2.size; omega
  have X3 : w3.heap[nb]? = some (.cells #[.bool M.leaf, .slice ak M.K.length ck, .slice av M.V.length cv, .slice ac M.C.length cc] 97) := by
   rw [← hw3, ← hnb]; exact han w2 _
  have b23 : Below nb w2 w3 := by rw [← hw3, ← hnb]; exact below_made _ _
  have fg3 : Frm (fun k => k = g) W w3 := ((Frm.of_below bW1).trans hf2 fun k hk => .inl hk).trans (G := fun _ => False) (Frm.of_below (by rw [hnb]; exact b23)) fun _ h => h.elim
  have hgF : F g := by obtain ⟨FD, FS, _, he⟩ := hT2; exact (he g).2 (.inr (.inr rfl))
  have hT3 : TS w3 d s g dk st (r + 1) F := hT2.below (by rw [hnb]; exact b23);have hNR3 := hNR.below (by rw [hnb]; exact b23);have Y1 : W1.heap[y]? = some (.cells #[.func (.yield l) #[] #[]] 158) := by rw [← hW1, ← hy]; exact han _ _
  have hgW := hTW.lt g hgF;have Y3 : w3.heap[y]? = some (.cells #[.func (.yield l) #[] #[]] 158) := (b23.block _ (by omega)).trans ((hf2.block y (by omega) (by omega)).trans Y1);have hb3 : BoxF w3 g p dp key b0 b1 b2 b3 := hbW.kept (fg3.block _ ltW.1 (fun e => hbF.1 (e ▸ hgF))) (fg3.block _ ltW.2.1 (fun e => hbF.2.1 (e ▸ hgF))) (fg3.block _ ltW.2.2.1 (fun e => hbF.2.2.1 (e ▸ hgF))) (fg3.block _ ltW.2.2.2 (fun e => hbF.2.2.2 (e ▸ hgF)))
  have FND : Hid (∃ (i : Nat) (fd : Bool), findN M key = (i, fd) ∧ i ≤ M.K.length ∧ ((M.leaf = true ∧ M.V.length = M.K.length ∧ scanE key (entsM Fm) = (M.K.zip M.V).drop i) ∨ (M.leaf = false ∧ ∃ (h' : Nat) (Q : List Kid), h' < h ∧ M.C = kP Q ∧ Q.length = M.K.length + 1 ∧ (∀ q ∈ Q, IsT (Rn dk) h' q.p q.F q.P ∧ SortM q.F) ∧ scanE key (entsM Fm) = scQ key (Q.drop i) ∧ PM = kPs Q))) := Hd (by
   cases h with
   | zero =>
    obtain ⟨i, fd, f1, f2, f3⟩ := scan_leaf hNT hs key;exact ⟨i, fd, f1, f2, .inl ⟨hNT.1, hNT.2.1, f3⟩⟩
   | succ h =>
    obtain ⟨Q, i, f1, f2, f3, f4, f5, f6, f7⟩ := scan_branch hNT hs key;exact ⟨i, true, f1, f2, .inr ⟨(NodT_succ.1 hNT).1, h, Q, Nat.lt_succ_self _, f3, f4, f5, f6, f7⟩⟩)
  obtain ⟨i, fd, hfn, hiK, hSC⟩ := FND.out;have FI := Hd (find_is M ak av ac ck cv cc w3 hNR3 key i fd (Hd hfn));have cn := cells4 X3;have ck3 := (box1 hb3.k).1;have HNT := Hd hNT;have HSC := Hd hSC;have H23 := Hd (And.intro hnb s2);obtain ⟨n0, n1, n2, n3⟩ := cn;clear c0 c1 c2 hT1 hbW1 VN b23 s1 s2 hT2 hf2 u1 u2 hSC hNT hNR FND;go_upto_region 4 with fail
  try rw [hw3]
  simp only [nodV] at FI;go_wp2_with fail;refine FI.out.mono ?_;rintro e w4 ⟨rfl, b4⟩;clear FI hw3;have fg4 : Frm (fun k => k = g) W w4 := fg3.trans (G := fun _ => False) (Frm.of_below b4) fun _ h => h.elim
  have lt3 : ∀ {k : Nat} {o : Obj}, w3.heap[k]? = some o → k < w3.heap.size := fun h => (zl h)
  have X4 := (b4.block _ (lt3 X3)).trans X3;have Y4 := (b4.block _ (lt3 Y3)).trans Y3;have hb4 := hb3.kept (b4.block _ hb3.lt.1) (b4.block _ hb3.lt.2.1) (b4.block _ hb3.lt.2.2.1) (b4.block _ hb3.lt.2.2.2);have hT4 := hT3.below b4;have hNR4 := hNR3.below b4;obtain ⟨H, hH⟩ : ∃ H : Nat → Prop, H = fun k => k = y ∨ k = nb ∨ (∃ x, ac = some x ∧ k = x.block ∧ M.C ≠ []) ∨ (∃ x, ak = some x ∧ k = x.block ∧ M.K ≠ []) ∨ (∃ x, av = some x ∧ k = x.block ∧ M.V ≠ []) ∨ k = b0 ∨ k = b1 ∨ k = b2 ∨ k = b3 := ⟨_, rfl⟩
  have hC0 : ∀ k, C k → k < y := fun k hk => by have := hlt _ _ _ h0 k hk; omega
  have hU : Under W C (FF F b0 b1 b2 b3) H w4 C w4 := by
   have hz3 := fg4.size;obtain ⟨hnb, s2⟩ := H23.out;have hw1 : W.heap.size ≤ W1.heap.size := bW1.size;refine ⟨fg4.mono fun k hk => .inr (.inl (hk ▸ hgF)), fun k hk => .inl hk, hCG, fun k hk hh => ?_, fun k hh => ⟨?_, rfl⟩, Nat.le_refl _, fun k hk => ?_, hz3⟩
   ·have hk' := hC0 k hk
    rw [hH] at hh
    rcases hh with h2 | h2 | ⟨x, h2, h3, _⟩ | ⟨x, h2, h3, _⟩ | ⟨x, h2, h3, _⟩ | h2 | h2 | h2 | h2
    ·omega
    ·omega
    ·have := q3 x h2; omega
    ·have := q1 x h2; omega
    ·have := q2 x h2; omega
    ·exact hCG k hk (.inr (.inl h2))
    ·exact hCG k hk (.inr (.inr (.inl h2)))
    ·exact hCG k hk (.inr (.inr (.inr (.inl h2))))
    ·exact hCG k hk (.inr (.inr (.inr (.inr h2))))
   ·rw [hH] at hh
    rcases hh with rfl | rfl | ⟨x, h2, h3, h4⟩ | ⟨x, h2, h3, h4⟩ | ⟨x, h2, h3, h4⟩ | rfl | rfl | rfl | rfl
    ·exact (zl Y4)
    ·exact (zl X4)
    ·rcases hNR4.c with h5 | ⟨bb, off, h5, h6, _⟩
     ·exact absurd (by simpa using h5) h4
     ·rw [h2] at h5; injection h5 with h5; rw [h3, h5]; exact h6
    ·rcases hNR4.k with h5 | ⟨bb, off, h5, h6, _⟩
     ·exact absurd (by simpa using h5) h4
     ·rw [h2] at h5; injection h5 with h5; rw [h3, h5]; exact h6
    ·rcases hNR4.v with h5 | ⟨bb, off, h5, h6, _⟩
     ·exact absurd (by simpa using h5) h4
     ·rw [h2] at h5; injection h5 with h5; rw [h3, h5]; exact h6
    ·omega
    ·omega
    ·omega
    ·omega
   ·rcases hk with hk | rfl | rfl | rfl | rfl
    ·exact hTW.lt k hk
    ·exact ltW.1
    ·exact ltW.2.1
    ·exact ltW.2.2.1
    ·exact ltW.2.2.2
  have hJ4 : J [] C w4 := hJ _ _ _ _ h0 (.of_frm fg4 fun k hk e => hCG k hk (.inl (e ▸ hgF)));obtain ⟨z0, z1, z2, z3⟩ := cells4 X4;have HU := Hd hU;have HT4 := Hd hT4;have HNR := Hd hNR4;have HX4 := Hd X4;have HY4 := Hd Y4;have HB4 := Hd hb4;have HHH := Hd hH;have HJ4 := Hd hJ4
  have HCB : Hid ((∀ x, ac = some x → y + 1 ≤ x.block) ∧ (∀ x, ak = some x → y + 1 ≤ x.block) ∧ (∀ x, av = some x → y + 1 ≤ x.block)) := Hd (by
   have hw1 : W1.heap.size = y + 1 := by rw [← hW1, ← hy]; simp
   exact ⟨fun x hx => by have := q3 x hx; omega, fun x hx => by have := q1 x hx; omega, fun x hx => by have := q2 x hx; omega⟩)
  have hU0F : ∀ k, F k → k < y := fun k hk => by rw [← hy]; exact hTW.lt k hk
  have hlt0J := hlt;clear hU hT4 hNR4 hNR3 q1 q2 q3 X3 X4 Y1 Y3 Y4 fg3 fg4 hb3 hb4 hH hT3 b4 lt3 n0 n1 n2 n3 ck3 hJ4 hW1 bW1
  rcases HSC.out with ⟨hlf, hVK, hSE⟩ | ⟨hlf, h', Q, hh', hQC, hQL, hQs, hSE, hPQ⟩
  ·clear ih
   have HSE := Hd hSE;have HVK := Hd hVK;clear hSE hVK;go_wp2_with fail
   go_loopw [10] (fun ii wr => ∃ (m : Nat) (C1 : Nat → Prop), ii = .int .i64 (m : Int) ∧ i ≤ m ∧ m ≤ M.K.length ∧ Hid (Under W C (FF F b0 b1 b2 b3) H w4 C1 wr) ∧ Hid (TS wr d s g dk st (r + 1) F) ∧ Hid (J (((M.K.zip M.V).take m).drop i) C1 wr)) (fun ii _ => M.K.length - (intOf ii).toNat)
   case atStart => exact ⟨i, C, rfl, Nat.le_refl _, hiK, HU, HT4, Hd (by rw [List.drop_eq_nil_of_le (by rw [List.length_take]; omega)]; exact HJ4.out)⟩
   case round =>
    obtain ⟨m, C1, rfl, him, hmK, HUr, HTr, HJr⟩ := hrel;have HHN : Hid (H nb) := Hd (by rw [HHH.out]; exact .inr (.inl rfl));have HHY : Hid (H y) := Hd (by rw [HHH.out]; exact .inl rfl);obtain ⟨n0, n1, n2, n3⟩ := cells4 ((HUr.out.hk nb HHN.out).2.trans HX4.out)
    by_cases hlt : m < M.K.length
    ·have hli : (m : Int) < (M.K.length : Int) := by omega
     have hlj : (m : Int) < (M.V.length : Int) := by rw [HVK.out]; omega
     obtain ⟨kb, ko, hak, hkl, hkc⟩ := HNR.out.k.at m (by rw [List.length_map]; exact hlt);obtain ⟨vb, vo, hav, hvl, hvc⟩ := HNR.out.v.at m (by rw [List.length_map, HVK.out]; exact hlt);have hKm : (M.K.map ukey)[m]'(by rw [List.length_map]; exact hlt) = .int .u64 (M.K[m]) := by rw [List.getElem_map]; rfl
     have hVm : (M.V.map Value.string)[m]'(by rw [List.length_map, HVK.out]; exact hlt) = .string (M.V[m]'(by rw [HVK.out]; exact hlt)) := by rw [List.getElem_map]
     rw [hKm] at hkc;rw [hVm] at hvc;obtain ⟨kk, hkk⟩ : ∃ kk, M.K[m] = kk := ⟨_, rfl⟩
     obtain ⟨vv, hvv⟩ : ∃ vv, M.V[m]'(by rw [HVK.out]; exact hlt) = vv := ⟨_, rfl⟩
     rw [hkk] at hkc;rw [hvv] at hvc
     have hZ : (M.K.zip M.V)[m]? = some (kk, vv) := by
      rw [List.getElem?_zip_eq_some];exact ⟨by rw [← hkk]; exact List.getElem?_eq_getElem hlt, by rw [← hvv]; exact List.getElem?_eq_getElem _⟩
     have HZ := Hd hZ;have HHK : Hid (H kb ∧ w4.cell? ⟨kb, ko + m, none⟩ = some (.int .u64 kk)) := Hd ⟨by rw [HHH.out]; exact .inr (.inr (.inr (.inl ⟨_, hak, rfl, fun e => by rw [e] at hlt; exact absurd hlt (Nat.not_lt_zero _)⟩))), hkc⟩;have HHV : Hid (H vb ∧ w4.cell? ⟨vb, vo + m, none⟩ = some (.string vv)) := Hd ⟨by rw [HHH.out]; exact .inr (.inr (.inr (.inr (.inl ⟨_, hav, rfl, fun e => by have := HVK.out; rw [e] at this; rw [← this] at hlt; exact absurd hlt (Nat.not_lt_zero _)⟩)))), hvc⟩;have HLT := Hd hlt;subst hak hav;clear hKm hVm hkc hvc hkk hvv hZ hkl hvl hlt;go_upto_region 9 with fail
     obtain ⟨wd, hwd⟩ : ∃ wd, wr.drew = wd := ⟨_, rfl⟩
     have bd : Below wr.heap.size wr wd := by rw [← hwd]; exact Br.drew
     have Ud : Under W C (FF F b0 b1 b2 b3) H w4 C1 wd := HUr.out.step (D := fun _ => False) (Frm.of_below bd) fun _ h => h.elim
     have HUd := Hd Ud;have HTd := Hd (HTr.out.below bd);have hSd : (fun w' : World => ∀ k, H k → w'.heap[k]? = w4.heap[k]?) wd := fun k hk => (Ud.hk k hk).2
     have hJd : J (((M.K.zip M.V).take m).drop i) C1 wd := hJ _ _ _ _ HJr.out (.of_frm (G := fun _ => False) (Frm.of_below bd) fun _ _ h => h);obtain ⟨fn2, tmps2, assign2, body2, hyl, hRR⟩ := hR _ (kk, vv) C1 wd (by rw [← zd_step him HZ.out, HSE.out]; exact zd_pre _ _ _) hJd;have HYL := Hd hyl;have HRR := Hd hRR;clear hyl hRR hJd Ud HUr HTr HJr;refine (wpIn_wide (n := 0)).1 (wpIn_mono (Q := noPan _) (regionY (S := fun w' : World => ∀ k, H k → w'.heap[k]? = w4.heap[k]?) (by kernel_rfl) ?_) of_noPan);rw [hwd];clear hwd bd
     refine takeY (i := 0) 43 (v := ?v43) rfl rfl (by kernel_rfl) (by kernel_rfl) (by kernel_rfl) (fun _ _ _ h => h) hSd (by rfl) ?h43 ?r43
     case h43 =>
      intro w9 s9;have y9 := (box1 ((s9 y HHY.out).trans HY4.out)).1;clear s9;go_simp;try (with_reducible rfl)
     simp only [SL];refine takeY (i := 1) 44 (v := ?v44) rfl rfl (by kernel_rfl) (by kernel_rfl) (by kernel_rfl) (fun _ _ _ h => h) hSd (by rfl) ?h44 ?r44
     case h44 =>
      intro w9 s9;clear s9;go_simp;try (with_reducible rfl)
     simp only [SL];refine takeY (i := 2) 45 (v := ?v45) rfl rfl (by kernel_rfl) (by kernel_rfl) (by kernel_rfl) (fun _ _ _ h => h) hSd (by rfl) ?h45 ?r45
     case h45 =>
      intro w9 s9;obtain ⟨x0, x1, x2, x3⟩ := cells4 ((s9 nb HHN.out).trans HX4.out);clear s9;go_simp;try (with_reducible rfl)
     simp only [SL];refine takeY (i := 3) 46 (v := ?v46) rfl rfl (by kernel_rfl) (by kernel_rfl) (by kernel_rfl) (fun _ _ _ h => h) hSd (by rfl) ?h46 ?r46
     case h46 =>
      intro w9 s9;clear s9;go_simp;try (with_reducible rfl)
     simp only [SL];refine takeY (i := 4) 47 (v := ?v47) rfl rfl (by kernel_rfl) (by kernel_rfl) (by kernel_rfl) (fun _ _ _ h => h) hSd (by rfl) ?h47 ?r47
     case h47 =>
      intro w9 s9;clear s9;go_simp;try (with_reducible rfl)
     simp only [SL];refine takeY (i := 5) 48 (v := ?v48) rfl rfl (by kernel_rfl) (by kernel_rfl) (by kernel_rfl) (fun _ _ _ h => h) hSd (by rfl) ?h48 ?r48
     case h48 =>
      intro w9 s9;have k9 := (cell_as (i := ko + m) (s9 kb HHK.out.1)).trans HHK.out.2;clear s9;go_simp;try (with_reducible rfl)
     simp only [SL];refine takeY (i := 6) 49 (v := ?v49) rfl rfl (by kernel_rfl) (by kernel_rfl) (by kernel_rfl) (fun _ _ _ h => h) hSd (by rfl) ?h49 ?r49
     case h49 =>
      intro w9 s9;clear s9;go_simp;try (with_reducible rfl)
     simp only [SL];refine takeY (i := 7) 50 (v := ?v50) rfl rfl (by kernel_rfl) (by kernel_rfl) (by kernel_rfl) (fun _ _ _ h => h) hSd (by rfl) ?h50 ?r50
     case h50 =>
      intro w9 s9;obtain ⟨x0, x1, x2, x3⟩ := cells4 ((s9 nb HHN.out).trans HX4.out);clear s9;go_simp;try (with_reducible rfl)
     simp only [SL];refine takeY (i := 8) 51 (v := ?v51) rfl rfl (by kernel_rfl) (by kernel_rfl) (by kernel_rfl) (fun _ _ _ h => h) hSd (by rfl) ?h51 ?r51
     case h51 =>
      intro w9 s9;clear s9;go_simp;try (with_reducible rfl)
     simp only [SL];refine takeY (i := 9) 52 (v := ?v52) rfl rfl (by kernel_rfl) (by kernel_rfl) (by kernel_rfl) (fun _ _ _ h => h) hSd (by rfl) ?h52 ?r52
     case h52 =>
      intro w9 s9;clear s9;go_simp;try (with_reducible rfl)
     simp only [SL];refine takeY (i := 10) 53 (v := ?v53) rfl rfl (by kernel_rfl) (by kernel_rfl) (by kernel_rfl) (fun _ _ _ h => h) hSd (by rfl) ?h53 ?r53
     case h53 =>
      intro w9 s9;have k9 := (cell_as (i := vo + m) (s9 vb HHV.out.1)).trans HHV.out.2;clear s9;go_simp;try (with_reducible rfl)
     simp only [SL];refine takeY (i := 11) 54 (v := ?v54) rfl rfl (by kernel_rfl) (by kernel_rfl) (by kernel_rfl) (fun _ _ _ h => h) hSd (by rfl) ?h54 ?r54
     case h54 =>
      intro w9 s9;clear s9;go_simp;try (with_reducible rfl)
     simp only [SL];refine stepY (i := 12) rfl (by kernel_rfl) (by rfl) (fun K hK => ?_);have HK := Hd hK;clear hK;have hyl := HYL.out;unfold encE at hyl;go_simp;refine ⟨rfl, HRR.out.mono ?_⟩;rintro e w8 ⟨C8, ho8, (⟨rfl, hj8⟩ | ⟨rfl, hj8⟩)⟩
     ·have U8 := HUd.out.round ho8
      have T8 := HTd.out.round ho8 fun k hk hf => HUd.out.cg k hk (.inl hf)
      rw [← zd_step him HZ.out] at hj8;have HU8 := Hd U8;have HT8 := Hd T8;have HJ8 := Hd hj8;refine HK.out _ _ (fun k hk => (U8.hk k hk).2) ?_;clear HK K hyl HYL HRR hSd HUd HTd U8 T8 ho8 hj8;try simp only [Act.put, SL]
      refine stepY (i := 13) rfl (by kernel_rfl) (by rfl) (fun K hK => ?_);have HK := Hd hK;clear hK;go_simp;refine HK.out _ _ (fun k hk => (HU8.out.hk k hk).2) ?_;clear HK K;try simp only [Act.put, SL]
      refine doneY (by kernel_rfl) ?_ _;simp only [noPan];have e4 : IntKind.i64.wrap ((m : Int) + 1) = ((m + 1 : Nat) : Int) := by rw [show (m : Int) + 1 = ((m + 1 : Nat) : Int) by omega]; exact IntWalk.i64_in _ (by have h2 := HNR.out.k2; have h3 := HNR.out.k3; have := HLT.out; unfold maxLen at h3; omega)
      go_wp2_with fail;refine ⟨⟨m + 1, C8, rfl, by omega, HLT.out, HU8, HT8, HJ8⟩, ?_⟩;have := HLT.out;simp [intOf];omega
     ·have U8 := HUd.out.round ho8
      have T8 := HTd.out.round ho8 fun k hk hf => HUd.out.cg k hk (.inl hf)
      rw [← zd_step him HZ.out] at hj8;have HU8 := Hd U8;have HT8 := Hd T8;have HJ8 := Hd hj8;refine HK.out _ _ (fun k hk => (U8.hk k hk).2) ?_;clear HK K hyl HYL HRR hSd HUd HTd U8 T8 ho8 hj8;try simp only [Act.put, SL]
      refine stepY (i := 13) rfl (by kernel_rfl) (by rfl) (fun K hK => ?_);have HK := Hd hK;clear hK;go_simp;refine HK.out _ _ (fun k hk => (HU8.out.hk k hk).2) ?_;clear HK K;try simp only [Act.put, SL]
      refine doneY (by kernel_rfl) ?_ _;simp only [noPan];go_wp2_with fail;exact endB (P := Tryz.prog) rfl (fun k hk => .inl hk) hJ hJx HU8.out HT8.out (by omega) (by simp) [] (Marks.nil _) (fun D hD => by cases hD) (.inr ⟨_, by rw [HSE.out]; exact zd_pre _ _ _, HJ8.out⟩) rfl
    ·obtain rfl : m = M.K.length := by omega
     have hli : ¬ ((M.K.length : Nat) : Int) < (M.K.length : Int) := by omega
     go_wp2_with fail;refine endB (P := Tryz.prog) rfl (fun k hk => .inl hk) hJ hJx HUr.out HTr.out (by omega) (by simp) [] (Marks.nil _) (fun D hD => by cases hD) (.inl ?_) hy;rw [HSE.out];have := HJr.out;rwa [List.take_of_length_le (by rw [List.length_zip, HVK.out]; omega)] at this
  ·subst hPQ
   obtain ⟨Qd, hQd⟩ : ∃ Qd, Q.drop i = Qd := ⟨_, rfl⟩
   have hDL : Qd.length = Q.length - i := by rw [← hQd, List.length_drop]
   have hCL : M.C.length = Q.length := by rw [hQC, kP_length]
   obtain ⟨cb, off, hac, hcbl, hX⟩ := HNR.out.c.at 0 (by rw [List.length_map]; omega);clear hX;obtain ⟨cD, hcD⟩ : ∃ cD, cc - i = cD := ⟨_, rfl⟩
   have hsl : ∀ w : World, (Instr.slice 22 (.slice (some ⟨cb, off, none⟩) M.C.length cc) (some (.int .i64 (i : Int))) none none).run Tryz.prog w = .ok (.slice (some ⟨cb, off + i, none⟩) Qd.length cD) w := fun w => by
    have hi1 : (i : Int) ≤ (M.C.length : Int) := by omega
    have hi0 : (0 : Int) ≤ (i : Int) := Int.natCast_nonneg i;have hcc : ¬ cc = i := by have := HNR.out.c2; omega
    have e1 : M.C.length - i = Qd.length := by omega
    clear hQC hQd hDL hCL hQL hQs hSE ih;go_simp;try simp [e1]
   have HSL := Hd hsl;have HQL := Hd (And.intro hDL hQL);have HQC := Hd (And.intro hQC (And.intro hCL hQd));have HQS := Hd hQs;have HSE := Hd hSE;subst hac;clear hQs hSE hQL hDL hcbl hQC hCL hQd HSC HNT;go_wp2_with fail;have HHY : Hid (H y) := Hd (by rw [HHH.out]; exact .inl rfl)
   have HHC : Hid (H cb ∧ ∀ j, j < M.C.length → w4.cell? ⟨cb, off + j, none⟩ = some ((M.C.map ikid).getD j undef)) := Hd (by
    have hne : M.C ≠ [] := fun e => by have h1 := HQC.out.2.1; have h2 := HQL.out.2; rw [e] at h1; simp at h1; omega
    refine ⟨by rw [HHH.out]; exact .inr (.inr (.inl ⟨_, rfl, rfl, hne⟩)), fun j hj => ?_⟩;obtain ⟨cb', off', e1, e2, e3⟩ := HNR.out.c.at j (by rw [List.length_map]; exact hj);injection e1 with e1;injection e1 with e1 e4;subst e1 e4;rw [e3, List.getD_eq_getElem?_getD, List.getElem?_eq_getElem (by rw [List.length_map]; exact hj)]
    rfl)
   refine wp_loop (fun a wr => ∃ (m : Nat) (C1 : Nat → Prop) (r1 : Nat) (Ds : List Nat) (u12 u13 u63 u64 u65 u66 u67 u68 u69 u70 u71 u72 u73 u74 u75 u76 u77 u78 u79 u80 u81 u82 : Value), m ≤ Qd.length ∧ a = { tmps := #[.func (.yield l) #[] #[], .pointer (some ⟨b0, 0, none⟩), .pointer (some ⟨b1, 0, none⟩), .pointer (some ⟨b2, 0, none⟩), .pointer (some ⟨b3, 0, none⟩), .pointer (some ⟨y, 0, none⟩), .pointer (some ⟨nb, 0, none⟩), .int .i64 0, .int .i64 (i : Int), .bool fd, undef, undef, u12, u13, .tuple #[.agg #[.bool false, .slice ak M.K.length ck, .slice av M.V.length cv, .slice (some ⟨cb, off, none⟩) M.C.length cc], .int .i64 0], .pointer (some ⟨g, 0, none⟩), .int .i64 p, .int .i64 dp, .tuple #[.agg #[.bool false, .slice ak M.K.length ck, .slice av M.V.length cv, .slice (some ⟨cb, off, none⟩) M.C.length cc], .int .i64 0], .agg #[.bool false, .slice ak M.K.length ck, .slice av M.V.length cv, .slice (some ⟨cb, off, none⟩) M.C.length cc], .int .i64 0, .int .i64 0, .bool false, undef, undef, undef, undef, .tuple #[.int .i64 (i : Int), .bool fd], .agg #[.bool false, .slice ak M.K.length ck, .slice av M.V.length cv, .slice (some ⟨cb, off, none⟩) M.C.length cc], .int .u64 key, .tuple #[.int .i64 (i : Int), .bool fd], .int .i64 (i : Int), .bool fd, .pointer (some ⟨nb, 0, none⟩), .bool false, undef, undef, undef, undef, undef, undef, undef, undef, undef, undef, undef, undef, undef, undef, undef, undef, undef, undef, undef, undef, undef, undef, .pointer (some ⟨nb, 3, none⟩), .slice (some ⟨cb, off, none⟩) M.C.length cc, .int .i64 (i : Int), .slice (some ⟨cb, off + i, none⟩) Qd.length cD, .int .i64 (Qd.length : Int), .int .i64 (m : Int), u63, u64, u65, u66, u67, u68, u69, u70, u71, u72, u73, u74, u75, u76, u77, u78, u79, u80, u81, u82], defers := Ds.map mkD } ∧ Hid (Under W C (FF F b0 b1 b2 b3) H w4 C1 wr) ∧ Hid (TS wr d s g dk st r1 F) ∧ Hid (r + 1 ≤ r1 ∧ r1 ≤ r + 1 + (kPs (Qd.take m)).length) ∧ Hid (J (scQ key (Qd.take m)) C1 wr) ∧ Hid (Marks wr Ds ∧ ∀ D ∈ Ds, w4.heap.size ≤ D ∧ ¬ C1 D)) (fun a _ => Qd.length - (intOf (a.tmps.getD 62 undef)).toNat) ?_ ?_
   ·exact ⟨0, C, r + 1, [], _, _, _, _, _, _, _, _, _, _, _, _, _, _, _, _, _, _, _, _, _, _, Nat.zero_le _, rfl, HU, HT4, Hd (by simp), Hd (by simpa [scQ] using HJ4.out), Hd ⟨Marks.nil _, fun D hD => by cases hD⟩⟩
   ·clear HU HT4 HJ4
    rintro a wr ⟨m, C1, r1, Ds, u12, u13, u63, u64, u65, u66, u67, u68, u69, u70, u71, u72, u73, u74, u75, u76, u77, u78, u79, u80, u81, u82, hm, rfl, HUr, HTr, HRr, HJr, HMr⟩
    by_cases hlt : m < Qd.length
    ·have hli : (m : Int) < (Qd.length : Int) := by omega
     obtain ⟨q, hq⟩ : ∃ q, Qd[m]? = some q := ⟨_, List.getElem?_eq_getElem hlt⟩
     have hqQ : Q[i + m]? = some q := by rw [← HQC.out.2.2, List.getElem?_drop] at hq; exact hq
     obtain ⟨hIT, hSM⟩ := HQS.out q (List.mem_of_getElem? hqQ);obtain ⟨hk1, hk2⟩ := kPs_at hq;obtain ⟨hx1, hx2⟩ := scQ_at (key := key) hq;have hcell := HHC.out.2 (i + m) (by have h1 := HQL.out.1; have h2 := HQC.out.2.1; omega)
     have hcv : (M.C.map ikid).getD (i + m) undef = .int .i64 q.p := by
      rw [HQC.out.1, kP, List.map_map, List.getD_eq_getElem?_getD, List.getElem?_map, hqQ]
      rfl
     rw [hcv] at hcell;have hcr := (cell_as (i := off + (i + m)) (HUr.out.hk cb HHC.out.1).2).trans hcell;rw [← Nat.add_assoc] at hcr;have hbr : BoxF wr g p dp key b0 b1 b2 b3 := HB4.out.kept (HUr.out.hk b0 (by rw [HHH.out]; exact .inr (.inr (.inr (.inr (.inr (.inl rfl))))))).2 (HUr.out.hk b1 (by rw [HHH.out]; exact .inr (.inr (.inr (.inr (.inr (.inr (.inl rfl)))))))).2 (HUr.out.hk b2 (by rw [HHH.out]; exact .inr (.inr (.inr (.inr (.inr (.inr (.inr (.inl rfl))))))))).2 (HUr.out.hk b3 (by rw [HHH.out]; exact .inr (.inr (.inr (.inr (.inr (.inr (.inr (.inr rfl))))))))).2
     have hyr := (HUr.out.hk y HHY.out).2.trans HY4.out;have v0 := (box1 hbr.v).1;have v2 := (box1 hbr.d).1;have v3 := (box1 hbr.k).1;have e1 : IntKind.i64.wrap (dp + 1) = dp + 1 := IntWalk.i64_in _ (by omega);have HIT := Hd (And.intro hIT hSM);have HK1 := Hd (And.intro hk1 hk2);have HX1 := Hd (And.intro hx1 hx2);have HBR := Hd hbr;have HYR := Hd hyr;have HML := Hd hlt;clear hIT hSM hk1 hk2 hx1 hx2 hcv hcell hbr hyr hlt hqQ;go_wp2_with fail;refine (from_is wr g q.p (dp + 1) key).mono ?_;rintro e w6 ⟨rfl, hbx, b6, s6⟩;obtain ⟨bk, hbk⟩ : ∃ bk, wr.heap.size = bk := ⟨_, rfl⟩
     rw [hbk] at hbx b6 s6 ⊢;go_wp2_with fail;have hTr := HTr.out;have hUr := HUr.out;have hT6 := hTr.below (by rw [hbk]; exact b6);have hFlt := hTr.lt;have hq0 : (kPs (Qd.take m)).length + (q.P.length + (kPs (Qd.drop (m + 1))).length) = (kPs Qd).length := by rw [HK1.out.1, List.length_append, List.length_append]
     have hq1 : (kPs Qd).length ≤ (kPs Q).length := by rw [← HQC.out.2.2]; exact kPs_drop Q i
     have hit := ih h' hh' w6 d s g dk st r1 F hT6 hu q.p q.F q.P HIT.out.1 HIT.out.2 (dp + 1) (by omega) (by omega) (by have := HRr.out; simp only [List.length_cons] at hr; omega) bk (bk + 1) (bk + 2) (bk + 3) hbx ⟨fun h => by have := hFlt _ h; omega, fun h => by have := hFlt _ h; omega, fun h => by have := hFlt _ h; omega, fun h => by have := hFlt _ h; omega⟩;have hHyF : H y := HHY.out
     have hFH : ∀ k, F k → ¬ H k := fun k hk hh => by
      have hkW := hU0F k hk;rw [HHH.out] at hh
      rcases hh with rfl | rfl | ⟨x, h2, h3, _⟩ | ⟨x, h2, h3, _⟩ | ⟨x, h2, h3, _⟩ | rfl | rfl | rfl | rfl
      ·omega
      ·have := H23.out.2; omega
      ·have := HCB.out.1 _ h2; omega
      ·have := HCB.out.2.1 _ h2; omega
      ·have := HCB.out.2.2 _ h2; omega
      ·exact hbF.1 hk
      ·exact hbF.2.1 hk
      ·exact hbF.2.2.1 hk
      ·exact hbF.2.2.2 hk
     have hy6 : w6.heap[y]? = some (.cells #[.func (.yield l) #[] #[]] 158) := (b6.block y (by rw [← hbk]; exact (zl HYR.out))).trans HYR.out;have hCbk : ∀ k, C1 k → k < bk := fun k hk => by rw [← hbk]; exact hlt _ _ _ HJr.out k hk
     have hyW : y < bk := by rw [← hbk]; exact (zl HYR.out)
     have hJ6 : J (scQ key (Qd.take m)) C1 w6 := hJ _ _ _ _ HJr.out (.of_frm (G := fun _ => False) (Frm.of_below (by rw [hbk]; exact b6)) fun _ _ h => h)
     have AFT : ∀ (D : Nat) (C' C2 : Nat → Prop) (Wz : World), w6.heap.size ≤ D → (∀ k, C' k ↔ C2 k ∨ k = y) → Wz.heap[y]? = some (.cells #[.func (.yield l) #[] #[]] 158) → ¬ C2 y → Frm (fun k => (C1 k ∨ k = y) ∨ FF F bk (bk + 1) (bk + 2) (bk + 3) k) w6 Wz → (∀ k, C' k → (C1 k ∨ k = y) ∨ w6.heap.size ≤ k) → ¬ C' D → Wz.heap[D]? = some (.deferred (some [])) → Under W C (FF F b0 b1 b2 b3) H w4 C2 Wz ∧ (Marks Wz (D :: Ds) ∧ ∀ D' ∈ D :: Ds, w4.heap.size ≤ D' ∧ ¬ C2 D') := by
      intro D C' C2 Wz hDz hDi hy2 hn2 hfr hC' hnD hdef;have hnH : ∀ j, bk ≤ j → ¬ H j := fun j hj hh => by have := (hUr.hk _ hh).1; have := hUr.sz; omega
      have U2 := hUr.after (C' := C2) (by rw [hbk]; exact b6) hfr (fun k hk => by
       rcases hk with hk | rfl | rfl | rfl | rfl
       ·exact ⟨.inl (.inl hk), hFH k hk⟩
       ·exact ⟨.inr (by omega), hnH _ (by omega)⟩
       ·exact ⟨.inr (by omega), hnH _ (by omega)⟩
       ·exact ⟨.inr (by omega), hnH _ (by omega)⟩
       ·exact ⟨.inr (by omega), hnH _ (by omega)⟩) (hy2.trans HY4.out.symm) (by omega) (fun k hk => by
       rcases hC' k ((hDi k).2 (.inl hk)) with (h1 | h1) | h1
       ·exact .inl h1
       ·exact absurd (h1 ▸ hk) hn2
       ·exact .inr (by omega))
      have hfz := hfr.size
      have hM2 : Marks Wz (D :: Ds) ∧ ∀ D' ∈ D :: Ds, w4.heap.size ≤ D' ∧ ¬ C2 D' := by
       have hsz := hUr.sz;refine ⟨(HMr.out.1.on fun D' hD' => ?_).cons (fun hm' => ?_) hdef, fun D' hD' => ?_⟩
       ·have hl := HMr.out.1.lt D' hD'
        rw [hfr.block D' (by omega) (fun hx => by
         rcases hx with (hx | rfl) | hx | rfl | rfl | rfl | rfl
         ·exact (HMr.out.2 D' hD').2 hx
         ·have := (HMr.out.2 _ hD').1; have := (hUr.hk _ hHyF).1; omega
         ·have := hU0F _ hx; have := (HMr.out.2 _ hD').1; have := (hUr.hk _ hHyF).1; omega
         ·omega
         ·omega
         ·omega
         ·omega), b6.block D' (by omega)]
       ·have := HMr.out.1.lt D hm'; omega
       ·rcases List.mem_cons.1 hD' with rfl | hD'
        ·exact ⟨by omega, fun hx => hnD ((hDi _).2 (.inl hx))⟩
        ·refine ⟨(HMr.out.2 D' hD').1, fun hx => ?_⟩
         have hl := HMr.out.1.lt D' hD'
         rcases hC' D' ((hDi D').2 (.inl hx)) with (h1 | h1) | h1
         ·exact (HMr.out.2 D' hD').2 h1
         ·exact hn2 (h1 ▸ hx)
         ·omega
      exact ⟨U2, hM2⟩
     refine (wpIn_wide (n := 0)).1 (rangeK rfl (enters_of Tryz.func90 (by kernel_rfl) rfl) hit (fun Wz lz o hz hv => ?_) (fun k hk => ?_) (by intro _; rfl) (fun k => C1 k ∨ k = y) (fun k hk hg => ?_) (IA J (scQ key (Qd.take m)) y (.cells #[.func (.yield l) #[] #[]] 158)) (fun c pre D Wz => c = .ret ∧ IA Jx (scQ key (Qd.take m)) y (.cells #[.func (.yield l) #[] #[]] 158) pre D Wz) (IA.on hJ) (fun c s D A B hh ho => ⟨hh.1, IA.on hJx s D A B hh.2 ho⟩) (IA.lt hlt0J) (fun c s D A hh => IA.lt hltx s D A hh.2) ⟨C1, fun _ => Iff.rfl, by rw [List.append_nil]; exact hJ6, hy6, fun e => hUr.ch y e hHyF⟩ ?_ ?_ ?_)
     ·obtain ⟨r', g1, g2, g3⟩ := hv
      exact ⟨r', g1, g2, g3.frm (putObj_frm Wz lz o) fun k hk e => by have := hT6.lt k hk; omega⟩
     ·rcases hk with hk | rfl | rfl | rfl | rfl
      ·exact hT6.lt k hk
      ·omega
      ·omega
      ·omega
      ·omega
     ·rcases hk with hk | rfl
      ·rcases hg with hg | rfl | rfl | rfl | rfl
       ·exact hUr.cg k hk (.inl hg)
       ·have := hCbk _ hk; omega
       ·have := hCbk _ hk; omega
       ·have := hCbk _ hk; omega
       ·have := hCbk _ hk; omega
      ·rcases hg with hg | rfl | rfl | rfl | rfl
       ·exact hFH _ hg hHyF
       ·omega
       ·omega
       ·omega
       ·omega
     ·intro l' pre x D Wz hpre hI hD hz hnl hll
      have bE := below_made Wz (.cells #[.int .u64 x.1, .string x.2] 50);have nE := han Wz (.cells #[.int .u64 x.1, .string x.2] 50);obtain ⟨Wa, hWa⟩ : ∃ Wa, Wz.alloc (.cells #[.int .u64 x.1, .string x.2] 50) = Wa := ⟨_, rfl⟩
      rw [hWa] at bE nE;unfold encE;gi_wp2;try rw [hWa]
      refine ⟨bE, fun Wb hfb hIb => ?_⟩;obtain ⟨C2, hDi, hjb, hyb, hnb⟩ := hIb
      obtain ⟨fn2, tmps2, assign2, body2, hyl2, hRR2⟩ := hR (scQ key (Qd.take m) ++ pre) x C2 Wb (by
       rw [HSE.out, HQC.out.2.2, HX1.out.1, List.append_assoc];exact (List.prefix_append_right_inj _).2 (hpre.trans (List.prefix_append _ _))) hjb
      have cyb := (box1 hyb).1;have eb : Wb.heap[Wz.heap.size]? = some (.cells #[.int .u64 x.1, .string x.2] 50) := (hfb.block _ (zl nE) (by omega)).trans nE;obtain ⟨eb0, eb1⟩ := cellsE eb;unfold encE at hyl2;gi_wp2;refine ⟨rfl, ?_⟩;refine hRR2.mono ?_;rintro e w8 ⟨C8, ho8, (⟨rfl, hj8⟩ | ⟨rfl, hj8⟩)⟩
      ·gi_wp2
       exact IA.next hDi hyb hnb ho8 hj8
      ·gi_wp2
       obtain ⟨D', hD1, hD2⟩ := IA.next (J' := Jx) hDi hyb hnb ho8 hj8;exact ⟨D', hD1, rfl, hD2⟩
     ·intro D C' Wz hDz hI hV hfr hC' hnD hdef
      obtain ⟨C2, hDi, hj2, hy2, hn2⟩ := hI;obtain ⟨r', g1, g2, hT'⟩ := hV;obtain ⟨U2, hM2⟩ := AFT D C' C2 Wz hDz hDi hy2 hn2 hfr hC' hnD hdef;have hbz : BoxF Wz g p dp key b0 b1 b2 b3 := HB4.out.kept (U2.hk b0 (by rw [HHH.out]; exact .inr (.inr (.inr (.inr (.inr (.inl rfl))))))).2 (U2.hk b1 (by rw [HHH.out]; exact .inr (.inr (.inr (.inr (.inr (.inr (.inl rfl)))))))).2 (U2.hk b2 (by rw [HHH.out]; exact .inr (.inr (.inr (.inr (.inr (.inr (.inr (.inl rfl))))))))).2 (U2.hk b3 (by rw [HHH.out]; exact .inr (.inr (.inr (.inr (.inr (.inr (.inr (.inr rfl))))))))).2;have z0 := (box1 hbz.v).1
      have z2 : Wz.cell? ⟨g, 2, none⟩ = some (.int .i64 0) := by
       obtain ⟨FD, FS, hi, _⟩ := hT';exact (vis_cells hi.v).2.2.1
      have HU2 := Hd U2;have HT2 := Hd hT';have HM2 := Hd hM2;have HJ2 : Hid (J (scQ key (Qd.take (m + 1))) C2 Wz) := Hd (by rw [HX1.out.2]; exact hj2);have HR2 : Hid (r + 1 ≤ r' ∧ r' ≤ r + 1 + (kPs (Qd.take (m + 1))).length) := Hd (by have := HRr.out; rw [HK1.out.2, List.length_append]; omega);have e4 : IntKind.i64.wrap ((m : Int) + 1) = ((m + 1 : Nat) : Int) := by rw [show (m : Int) + 1 = ((m + 1 : Nat) : Int) by omega]; exact IntWalk.i64_in _ (by have h2 := HNR.out.c2; have h3 := HNR.out.c3; have := HML.out; have h4 := HQL.out.1; have h5 := HQC.out.2.1; unfold maxLen at h3; omega)
      clear U2 hT' hM2 hbz hj2 hit hFH hCbk hJ6 hy6 hfr hC' hDi;go_wp2_with fail;refine ⟨⟨m + 1, C2, r', D :: Ds, _, _, _, _, _, _, _, _, _, _, _, _, _, _, _, _, _, _, _, _, _, _, HML.out, rfl, HU2, HT2, HR2, HJ2, HM2⟩, ?_⟩;have := HML.out;simp [intOf];omega
     ·rintro D c pre C' Wz hDz hpre ⟨rfl, hI⟩ hV hfr hC' hnD hdef
      obtain ⟨C2, hDi, hj2, hy2, hn2⟩ := hI;obtain ⟨r', g1, g2, hT'⟩ := hV;obtain ⟨U2, hM2⟩ := AFT D C' C2 Wz hDz hDi hy2 hn2 hfr hC' hnD hdef;refine wpIn_wide.2 ?_;go_wp2_with fail;refine endB (P := Tryz.prog) rfl (fun k hk => .inl hk) hJ hJx U2 hT' (by have := HRr.out; omega) (by have := HRr.out; show r' ≤ r + ((kPs Q).length + 1); omega) (D :: Ds) hM2.1 (fun D' hD' => ⟨Nat.le_trans U2.zz (hM2.2 D' hD').1, (hM2.2 D' hD').2⟩) (.inr ⟨scQ key (Qd.take m) ++ pre, ?_, hj2⟩) rfl;rw [HSE.out, HQC.out.2.2, HX1.out.1];exact (List.prefix_append_right_inj _).2 (hpre.trans (List.prefix_append _ _))
    ·obtain rfl : m = Qd.length := by omega
     have hli : ¬ ((Qd.length : Nat) : Int) < (Qd.length : Int) := by omega
     go_wp2_with fail;refine endB (P := Tryz.prog) rfl (fun k hk => .inl hk) hJ hJx HUr.out HTr.out (by have := HRr.out; omega) (by have h1 := HRr.out.2; have h2 := kPs_drop Q i; rw [HQC.out.2.2] at h2; rw [List.take_length] at h1; show r1 ≤ r + ((kPs Q).length + 1); omega) Ds HMr.out.1 (fun D hD => ⟨Nat.le_trans HUr.out.zz (HMr.out.2 D hD).1, (HMr.out.2 D hD).2⟩) (.inl ?_) hy;have := HJr.out;rw [List.take_length] at this;rw [HSE.out, HQC.out.2.2];exact this
attribute [local go_sem] Oper.semAt_some
def rowE (e : Ent) : List Value := [.int .u64 e.1, .string e.2]
def rowsE (L : List Ent) : List Value := (L.map rowE).flatten
theorem rowsE_snoc (L : List Ent) (x : Ent) : rowsE (L ++ [x]) = rowsE L ++ rowE x := by simp [rowsE]
theorem info_entry : ∃ i z, Tryz.prog.info? 50 = some i ∧ i.zero = some z ∧ i.size = 2 ∧ i.bytes = 24 ∧ z.cells.size = 2 := by
 have h : (Tryz.prog.info? 50).bind (fun i => i.zero.map fun z => (i.size, i.bytes, z.cells.size)) = some (2, 24, 2) := by kernel_rfl
 cases hq : Tryz.prog.info? 50 with
 | none => rw [hq] at h; cases h
 | some i =>
  rw [hq] at h
  cases hz : i.zero with
  | none => simp [hz] at h
  | some z => simp [hz] at h; exact ⟨i, z, rfl, hz, h.1, h.2.1, h.2.2⟩
def ScI (lb mb : Nat) (most : Int) (pre : List Ent) (C : Nat → Prop) (W : World) : Prop :=
 ∃ v, W.heap[lb]? = some (.cells #[v] 43) ∧ W.heap[mb]? = some (.cells #[.int .i64 most] 3) ∧ W.ownsRow (lb + 1) 50 2 v pre.length (rowsE pre) ∧ ∀ k, C k ↔ k = lb ∨ k = mb ∨ v.ownBlock = some k
theorem ScI.on {lb mb : Nat} {most : Int} {pre : List Ent} {C : Nat → Prop} {A B : World} (h : ScI lb mb most pre C A) (ho : OnC C A B) : ScI lb mb most pre C B := by
 obtain ⟨v, h1, h2, h3, h4⟩ := h;have lt : ∀ {k : Nat} {o : Obj}, A.heap[k]? = some o → k < A.heap.size := fun h => (zl h)
 refine ⟨v, (ho.block _ (lt h1) ((h4 _).2 (.inl rfl))).trans h1, (ho.block _ (lt h2) ((h4 _).2 (.inr (.inl rfl)))).trans h2, ⟨h3.1, ?_⟩, h4⟩
 rcases h3.2 with hx | ⟨g, cap, cur, hv, hbg, hh, r⟩
 ·exact .inl hx
 ·exact .inr ⟨g, cap, cur, hv, hbg, (ho.block g (lt hh) ((h4 g).2 (.inr (.inr (by rw [hv]; rfl))))).trans hh, r⟩
theorem ScI.lt {lb mb : Nat} {most : Int} {pre : List Ent} {C : Nat → Prop} {A : World} (h : ScI lb mb most pre C A) (k : Nat) (hk : C k) : k < A.heap.size := by
 obtain ⟨v, h1, h2, h3, h4⟩ := h
 rcases (h4 k).1 hk with rfl | rfl | h5
 ·exact (zl h1)
 ·exact (zl h2)
 ·exact (h3.lt k h5).2
theorem scanE_len (key : Int) (E : List Ent) : (scanE key E).length ≤ E.length := List.length_filter_le ..
theorem scanR_is (w : World) (d s : Nat) (dk : DkS) (st : ShS) (F : Nat → Prop) (h : SD w d s dk st F) (G : Good dk st) (root : Int) (E : List Ent) (ht : (root = 0 ∧ E = []) ∨ ∃ hh F0 P0, IsT (Rn dk) hh root F0 P0 ∧ SortM F0 ∧ entsM F0 = E ∧ P0.length ≤ 640) (hE : E.length ≤ 600) (key most : Int) :
  Calls Tryz.prog 19 #[.pointer (some ⟨s, 0, none⟩), .int .i64 root, .int .u64 key, .int .i64 most] w fun e w' => ∃ v, e = .returned (.tuple #[v, .int .i64 0]) ∧ w'.ownsRow w.heap.size 50 2 v ((scanE key E).take most.toNat).length (rowsE ((scanE key E).take most.toNat)) ∧ SD w' d s dk st F ∧ Frm F w w' := by
 by_cases hz : root = 0 ∨ most < 1
 ·have e1 : (scanE key E).take most.toNat = [] := by
   rcases hz with hz | hz
   ·rcases ht with ⟨_, rfl⟩ | ⟨hh, F0, P0, hi, hs, rfl, hl⟩
    ·simp [scanE]
    ·obtain ⟨M, PM, m1, _⟩ := hi
     have := (Rn_read m1).1;omega
   ·rw [show most.toNat = 0 by omega]; rfl
  have FIN : Hid (∀ w', Below w.heap.size w w' → w'.ownsRow w.heap.size 50 2 (.slice none 0 0) 0 [] ∧ SD w' d s dk st F ∧ Frm F w w') := Hd (fun w' hb => ⟨World.ownsRow_nil _ _ _ _, h.below hb, Frm.of_below hb⟩);rw [e1]
  have hr : (root == 0) = true ∨ ((root == 0) = false ∧ most < 1) := by
   by_cases h0 : root = 0
   ·exact .inl (by rw [h0]; rfl)
   ·exact .inr ⟨beq_eq_false_iff_ne.2 h0, by omega⟩
  have bA : Hid (Below w.heap.size w (w.alloc (.cells #[.int .i64 most] 3))) := Hd (below_made _ _);clear h G ht hz e1
  rcases hr with hr | ⟨hr, hm⟩
  ·go_enter Tryz.func19, Tryz.ntmps19
   go_wp2_with fail;go_ret2;exact ⟨_, rfl, FIN.out _ bA.out⟩
  ·go_enter Tryz.func19, Tryz.ntmps19
   go_wp2_with fail;go_ret2;exact ⟨_, rfl, FIN.out _ bA.out⟩
 ·rcases ht with ⟨rfl, rfl⟩ | ⟨hh, F0, P0, hi, hs, rfl, hl⟩
  ·exact absurd (.inl rfl) hz
  have h9 := hi.low hE;have hP : P0.length ≤ 640 := hl;have h0' : (root == 0) = false := beq_eq_false_iff_ne.2 fun e => hz (.inl e)
  have hm1 : ¬ most < 1 := fun e => hz (.inr e)
  have hu := G.su;obtain ⟨n0, hn0⟩ : ∃ n0, w.heap.size = n0 := ⟨_, rfl⟩
  obtain ⟨x0, hx0⟩ : ∃ x0, w.alloc (.cells #[.int .i64 most] 3) = x0 := ⟨_, rfl⟩
  have b0 := below_made w (.cells #[.int .i64 most] 3);have m0 := han w (.cells #[.int .i64 most] 3);have z0 : (w.alloc (.cells #[.int .i64 most] 3)).heap.size = n0 + 1 := by simp [hn0]
  rw [hx0, hn0] at b0 m0;rw [hx0] at z0;obtain ⟨x1, hx1⟩ : ∃ x1, x0.alloc (visO s 0) = x1 := ⟨_, rfl⟩
  have b1 := below_made x0 (visO s 0);have T1 := (h.below (by rw [hn0]; exact b0)).visit;have z1 : (x0.alloc (visO s 0)).heap.size = n0 + 2 := by simp [z0]
  rw [hx1, z0] at b1 T1;rw [hx1] at z1;obtain ⟨x2, hx2⟩ : ∃ x2, x1.alloc (.cells #[.slice none 0 0] 43) = x2 := ⟨_, rfl⟩
  have b2 := below_made x1 (.cells #[.slice none 0 0] 43);have l2 := han x1 (.cells #[.slice none 0 0] 43);have z2 : (x1.alloc (.cells #[.slice none 0 0] 43)).heap.size = n0 + 3 := by simp [z1]
  rw [hx2, z1] at b2 l2;rw [hx2] at z2;have T2 := T1.below (by rw [z1]; exact b2);have m2 : x2.heap[n0]? = some (.cells #[.int .i64 most] 3) := (b2.block _ (by omega)).trans ((b1.block _ (by omega)).trans m0);have bw2 : Below n0 w x2 := (b0.trans (b1.mono (by omega))).trans (b2.mono (by omega));have FI := Hd (from_is x2 (n0 + 1) root 1 key);have hx1' : x0.alloc (.cells #[.pointer (some ⟨s, 0, none⟩), .int .i64 0, .int .i64 0] 88) = x1 := hx1;clear hx1;refine (callsIn_wide (n := 0)).1 (callsIn_of_wp_marks (F := Fence.wide) (n := 0) Tryz.func19 rfl trivial (wpIn_wide.2 ?_) rfl)
  simp only [Tryz.ntmps19, List.size_toArray, List.length_cons, List.length_nil, Nat.reduceAdd, Nat.reduceSub, Array.replicate_succ, Array.replicate_zero, List.push_toArray, List.append_toArray, List.nil_append, List.cons_append];have HL := Hd (And.intro m2 l2);have HT2 := Hd T2;have HB := Hd (And.intro bw2 z2);have HH := Hd h;have HI := Hd (And.intro hi (And.intro hs (And.intro h9 hP)));have HX := Hd (And.intro hx0 (And.intro hx1' hx2));have HN := Hd hn0;have HE6 := Hd hE;clear T1 T2 b0 b1 b2 m0 l2 m2 bw2 h hi hs hl hz hE G z0 z1 hx0 hx1' hx2 hn0 h9 hP;go_wp2_with fail
  rw [HX.out.1, HX.out.2.1, HX.out.2.2, HN.out];refine FI.out.mono ?_;rintro e w6 ⟨rfl, hbx, b6, s6⟩;rw [z2] at hbx b6 s6 ⊢;simp only [Nat.add_assoc, Nat.reduceAdd] at hbx s6 ⊢;clear z2 FI;go_wp2_with fail;have hF0 : ∀ k, F k → k < n0 := fun k hk => by rw [← HN.out]; exact HH.out.lt k hk
  have hT6 := HT2.out.below (by rw [HB.out.2]; exact b6);have hm6 : w6.heap[n0]? = some (.cells #[.int .i64 most] 3) := (b6.block _ (by omega)).trans HL.out.1;have hl6 : w6.heap[n0 + 2]? = some (.cells #[.slice none 0 0] 43) := (b6.block _ (by omega)).trans HL.out.2;have hb6 : Below n0 w w6 := HB.out.1.trans (b6.mono (by omega))
  have hit := from_iter key hh w6 d s (n0 + 1) dk st 0 (fun k => F k ∨ k = n0 + 1) hT6 hu root F0 P0 HI.out.1 HI.out.2.1 1 (by omega) (by have := HI.out.2.2.1; omega) (by have := HI.out.2.2.2; omega) (n0 + 3) (n0 + 4) (n0 + 5) (n0 + 6) hbx ⟨fun h => by rcases h with h | h; (have := hF0 _ h; omega); omega, fun h => by rcases h with h | h; (have := hF0 _ h; omega); omega, fun h => by rcases h with h | h; (have := hF0 _ h; omega); omega, fun h => by rcases h with h | h; (have := hF0 _ h; omega); omega⟩
  have hGn : ∀ k, FF (fun k => F k ∨ k = n0 + 1) (n0 + 3) (n0 + 4) (n0 + 5) (n0 + 6) k → F k ∨ k = n0 + 1 ∨ n0 + 3 ≤ k := fun k hk => by
   rcases hk with (hk | hk) | hk | hk | hk | hk
   ·exact .inl hk
   ·exact .inr (.inl hk)
   all_goals exact .inr (.inr (by omega))
  have FIN : ∀ (D : Nat) (v : Value) (L : List Ent) (C' : Nat → Prop) (W W' : World), w6.heap.size ≤ D → ScI (n0 + 2) n0 most L C' W → (∀ k, C' k ↔ k = n0 + 2 ∨ k = n0 ∨ v.ownBlock = some k) → W.ownsRow (n0 + 2 + 1) 50 2 v L.length (rowsE L) → VP d s (n0 + 1) dk st 0 (fun k => F k ∨ k = n0 + 1) P0.length W → Frm (fun k => (k = n0 + 2 ∨ k = n0) ∨ FF (fun k => F k ∨ k = n0 + 1) (n0 + 3) (n0 + 4) (n0 + 5) (n0 + 6) k) w6 W → ¬ C' D → Frm (fun k => k ∈ [D]) W W' → W'.ownsRow n0 50 2 v L.length (rowsE L) ∧ SD W' d s dk st F ∧ Frm F w W' := by
   intro D v L C' W W' hD hS hC hown hV hfr hnD hm;refine ⟨?_, ?_⟩
   ·have h1 := own_frmZ hown hm fun k hk hd => by
     rw [List.mem_singleton] at hd;exact hnD ((hC D).2 (.inr (.inr (hd ▸ hk))))
    refine ⟨h1.1, ?_⟩
    rcases h1.2 with hx | ⟨g, cap, cur, hv, hbg, r⟩
    ·exact .inl hx
    ·exact .inr ⟨g, cap, cur, hv, by omega, r⟩
   ·obtain ⟨r', _, _, FD, FS, hti, he⟩ := hV
    have hDn : n0 + 7 ≤ D := by omega
    have hSD : SD W d s dk st F := ⟨FD, FS, hti.ds, fun k => ⟨fun hk => ?_, fun hk => ?_⟩⟩
    ·refine ⟨hSD.frm hm fun k hk hd => ?_, ?_⟩
     ·rw [List.mem_singleton] at hd
      have := hF0 k hk;omega
     ·refine ((Frm.of_below (by rw [HN.out]; exact hb6)).trans hfr fun k hk => ?_).trans hm fun k hk => ?_
      ·rw [HN.out]
       rcases hk with (hk | hk) | hk
       ·exact .inr (by omega)
       ·exact .inr (by omega)
       ·rcases hGn k hk with h1 | h1 | h1
        ·exact .inl h1
        ·exact .inr (by omega)
        ·exact .inr (by omega)
      ·rw [List.mem_singleton] at hk
       rw [HN.out];exact .inr (by omega)
    ·rcases (he k).1 (.inl hk) with h1 | h1 | h1
     ·exact .inl h1
     ·exact .inr h1
     ·have := hF0 k hk; omega
    ·rcases (he k).2 (hk.imp id .inl) with h1 | h1
     ·exact h1
     ·rw [h1] at hk
      rcases hk with hk | hk
      ·exact absurd hk hti.gd
      ·exact absurd hk hti.gs
  have HFIN := Hd FIN;clear FIN
  refine (wpIn_wide (n := 0)).1 (rangeK rfl (enters_of Tryz.func90 (by kernel_rfl) rfl) hit (fun Wz lz o hz hv => ?_) (fun k hk => ?_) (by intro _; rfl) (fun k => k = n0 + 2 ∨ k = n0) (fun k hk hg => ?_) (fun pre C W => ScI (n0 + 2) n0 most pre C W ∧ (pre.length : Int) < most) (fun c pre C W => c = .exit 0 ∧ ScI (n0 + 2) n0 most pre C W ∧ (pre.length : Int) = most) (fun s D A B hh ho => ⟨hh.1.on ho, hh.2⟩) (fun c s D A B hh ho => ⟨hh.1, hh.2.1.on ho, hh.2.2⟩) (fun s D A hh => hh.1.lt) (fun c s D A hh => hh.2.1.lt) ⟨⟨.slice none 0 0, hl6, hm6, World.ownsRow_nil _ _ _ _, fun k => by simp [Value.ownBlock]⟩, by simp; omega⟩ ?_ ?_ ?_)
  ·obtain ⟨r', g1, g2, g3⟩ := hv
   exact ⟨r', g1, g2, g3.frm (putObj_frm Wz lz o) fun k hk e => by have := hT6.lt k hk; omega⟩
  ·rcases hGn k hk with h1 | h1 | h1
   ·have := hF0 k h1; omega
   ·omega
   ·rcases hk with hk | hk | hk | hk | hk
    ·exact hT6.lt k hk
    all_goals omega
  ·rcases hk with rfl | rfl
   ·rcases hGn _ hg with h1 | h1 | h1
    ·have := hF0 _ h1; omega
    ·omega
    ·omega
   ·rcases hGn _ hg with h1 | h1 | h1
    ·have := hF0 _ h1; omega
    ·omega
    ·omega
  ·intro l pre x C1 Wz hpre hI hD hz hnl hll
   have bE := below_made Wz (.cells #[.int .u64 x.1, .string x.2] 50);have nE := han Wz (.cells #[.int .u64 x.1, .string x.2] 50);obtain ⟨Wa, hWa⟩ : ∃ Wa, Wz.alloc (.cells #[.int .u64 x.1, .string x.2] 50) = Wa := ⟨_, rfl⟩
   rw [hWa] at bE nE;unfold encE;gi_wp2;try rw [hWa]
   refine ⟨bE, fun Wb hfb hIb => ?_⟩;have HI0 := Hd hIb;obtain ⟨⟨v, e1, e2, hown, hDi⟩, hlm⟩ := hIb;have eb : Wb.heap[Wz.heap.size]? = some (.cells #[.int .u64 x.1, .string x.2] 50) := (hfb.block _ (zl nE) (by omega)).trans nE;obtain ⟨eb0, eb1⟩ := cellsE eb;obtain ⟨cy, cyf⟩ := box1 e1;obtain ⟨va, vc, rfl, hv1, hv2⟩ := own_shape7 hown;obtain ⟨i, z, hi, hz0, hz1, hz2, hz3⟩ := info_entry;have OWN := Hd hown;have HD := Hd hDi;have HLT := Hd hlm;have HB1 := Hd (And.intro e1 e2)
   have hlen : pre.length ≤ 600 := by
    have h1 := hpre.length_le;have h2 := scanE_len key (entsM F0);simp at h1;have := HE6.out;omega
   clear hown hDi hlm e1 e2 hfb eb nE bE hWa
   gi_wp2_with (gi_at_builtin; refine wpListIn_append_own_at _ rfl (.tmp 25) (.tmp 27) 43 rfl (n0 + 2 + 1) 50 i z 2 24 Tryz.underlying43 hi hz0 hz1 hz2 hz3 (by decide) _ _ _ rfl (OWN.out.alloc _) ⟨Wb.heap.size, 0, none⟩ 1 1 (rowE x) rfl rfl ?c1 ?c2 ?c3 ?c4 ?c5 ?_)
   case c1 =>
    intro j u hj
    match j, hj with
    | 0, hj =>
     injection hj with hj;subst hj;exact (cellsE (han Wb _)).1
    | 1, hj =>
     injection hj with hj;subst hj;exact (cellsE (han Wb _)).2
    | j + 2, hj => simp [rowE] at hj
   case c2 =>
    intro u hu;simp only [rowE, List.mem_cons, List.not_mem_nil, or_false] at hu
    rcases hu with rfl | rfl <;> rfl
   case c3 => unfold maxLen; omega
   case c4 => omega
   case c5 =>
    have := (HI0.out.1.lt (n0 + 2) ((by obtain ⟨_, _, _, _, h9⟩ := HI0.out.1; exact (h9 _).2 (.inl rfl))))
    simp;omega
   intro v' w9 hown' hgrow hnil hat;rw [← rowsE_snoc] at hown';have olt : ∀ k, (Value.slice va pre.length vc).ownBlock = some k → n0 + 2 + 1 ≤ k ∧ k < Wb.heap.size := fun k hk => OWN.out.lt k hk
   have lts := HI0.out.1.lt;have lb9 := lts (n0 + 2) ((HD.out _).2 (.inl rfl));have lm9 := lts n0 ((HD.out _).2 (.inr (.inl rfl)));have ks : ∀ k, k < n0 + 3 → k < Wb.heap.size → w9.heap[k]? = Wb.heap[k]? := fun k h1 h2 => (hgrow.block k (by simp; omega) (fun e => by have := olt k e.symm; omega)).trans (hao _ _ h2)
   have a1 := (ks _ (by omega) lb9).trans HB1.out.1;have a2 := (ks _ (by omega) lm9).trans HB1.out.2;obtain ⟨d1, d1f⟩ := box1 a1;have d2 := (box1 a2).1;obtain ⟨va', vc', rfl, _, _⟩ := own_shape7 hown'
   have FR : Hid (∀ wf, w9.setCell ⟨n0 + 2, 0, none⟩ (.slice va' (pre.length + 1) vc') = wf → Own1 C1 Wb (fun k => k = n0 + 2 ∨ k = n0 ∨ (Value.slice va' (pre.length + 1) vc').ownBlock = some k) wf ∧ ScI (n0 + 2) n0 most (pre ++ [x]) (fun k => k = n0 + 2 ∨ k = n0 ∨ (Value.slice va' (pre.length + 1) vc').ownBlock = some k) wf) := Hd (fun wf hwf => by
    have og := hown'.lt;refine ⟨⟨?_, fun k hk => ?_⟩, ?_⟩
    ·rw [← hwf]
     exact ((((Frm.refl _ Wb).alloc _).grown hgrow fun k hk => .inl ((HD.out k).2 (.inr (.inr hk)))).setCell _ _ (.inl ((HD.out _).2 (.inl rfl))))
    ·rcases hk with rfl | rfl | hk
     ·exact .inl ((HD.out _).2 (.inl rfl))
     ·exact .inl ((HD.out _).2 (.inr (.inl rfl)))
     ·rcases hat with h1 | h1
      ·exact .inl ((HD.out k).2 (.inr (.inr (h1 ▸ hk))))
      ·rw [h1] at hk; injection hk with hk; exact .inr (by omega)
    ·refine ⟨.slice va' (pre.length + 1) vc', ?_, ?_, ?_, fun k => Iff.rfl⟩
     ·rw [← hwf, hss _ _ 0 _ _ _ a1]; rfl
     ·rw [← hwf, heap_setCell_other _ _ _ _ (by show n0 ≠ n0 + 2; omega)]; exact a2
     ·rw [← hwf, List.length_append]
      exact ownsRow_setCell_other hown' (fun e => by have := (og _ e).1; simp at this) _)
   by_cases hbr : ((pre.length + 1 : Nat) : Int) = most
   ·have hbr2 : (pre.length : Int) + 1 = most := by omega
    have hbr3 : ((pre.length : Int) + 1 == most) = true := beq_iff_eq.2 hbr2;have HBR := Hd hbr;clear hown' hgrow hnil hat olt ks a1 a2 lts lb9 lm9 HB1 OWN HD hi hz0 hz1 hz2 hz3 hv1 hv2 hbr;gi_wp2;obtain ⟨f1, f2⟩ := FR.out _ rfl;exact ⟨_, f1, rfl, f2, by rw [List.length_append]; exact HBR.out⟩
   ·have hbr2 : ¬ (pre.length : Int) + 1 = most := by omega
    have hbr3 : ((pre.length : Int) + 1 == most) = false := beq_eq_false_iff_ne.2 hbr2;have HBR := Hd hbr;clear hown' hgrow hnil hat olt ks a1 a2 lts lb9 lm9 HB1 OWN HD hi hz0 hz1 hz2 hz3 hv1 hv2 hbr;gi_wp2;obtain ⟨f1, f2⟩ := FR.out _ rfl;refine ⟨_, f1, f2, ?_⟩;have := HLT.out;rw [List.length_append];simp only [List.length_cons, List.length_nil];omega
  ·intro D C' W hD hI hV hfr hC' hnD hdef
   obtain ⟨⟨v, e1, e2, hown, hCC⟩, hlm⟩ := hI;have HE := Hd (HFIN.out D v _ C' W · hD ⟨v, e1, e2, hown, hCC⟩ hCC hown hV hfr hnD)
   have z2 : W.cell? ⟨n0 + 1, 2, none⟩ = some (.int .i64 0) := by
    obtain ⟨r', _, _, FD, FS, hti, _⟩ := hV;exact (vis_cells hti.v).2.2.1
   have c1 := (box1 e1).1;have HM : Hid (Marks W [D]) := Hd ((Marks.nil W).cons (by simp) hdef);have HT : Hid ((scanE key (entsM F0)).take most.toNat = scanE key (entsM F0)) := Hd (List.take_of_length_le (by omega));clear hown hV hfr hdef hit;go_wp2_with fail;refine leavesM [D] W HM.out fun W' hm => ⟨_, results_tmp2 (fn := Tryz.f19) rfl _ _ _, ?_⟩
   refine ⟨v, rfl, ?_⟩;rw [HT.out, HN.out];exact HE.out W' hm
  ·rintro D c pre C' W hD hpre ⟨rfl, hI, hlm⟩ hV hfr hC' hnD hdef
   obtain ⟨v, e1, e2, hown, hCC⟩ := hI;have HE := Hd (HFIN.out D v _ C' W · hD ⟨v, e1, e2, hown, hCC⟩ hCC hown hV hfr hnD)
   have z2 : W.cell? ⟨n0 + 1, 2, none⟩ = some (.int .i64 0) := by
    obtain ⟨r', _, _, FD, FS, hti, _⟩ := hV;exact (vis_cells hti.v).2.2.1
   have c1 := (box1 e1).1;have HM : Hid (Marks W [D]) := Hd ((Marks.nil W).cons (by simp) hdef);have HT : Hid ((scanE key (entsM F0)).take most.toNat = pre) := Hd (by rw [show most.toNat = pre.length by omega]; exact (List.prefix_iff_eq_take.1 hpre).symm);clear hown hV hfr hdef hit;refine wpIn_wide.2 ?_;go_wp2_with fail;refine leavesM [D] W HM.out fun W' hm => ⟨_, results_tmp2 (fn := Tryz.f19) rfl _ _ _, ?_⟩
   refine ⟨v, rfl, ?_⟩;rw [HT.out, HN.out];exact HE.out W' hm
theorem scan_is (w : World) (d s : Nat) (dk : DkS) (st : ShS) (F : Nat → Prop) (h : SD w d s dk st F) (G : Good dk st) (root : Int) (E : List Ent) (ht : TreeI dk st root E) (hE : E.length ≤ 600) (key most : Int) :
  Calls Tryz.prog 19 #[.pointer (some ⟨s, 0, none⟩), .int .i64 root, .int .u64 key, .int .i64 most] w fun e w' => ∃ v, e = .returned (.tuple #[v, .int .i64 0]) ∧ w'.ownsRow w.heap.size 50 2 v ((scanE key E).take most.toNat).length (rowsE ((scanE key E).take most.toNat)) ∧ SD w' d s dk st F ∧ Frm F w w' :=
 scanR_is w d s dk st F h G root E (by
  rcases ht with ⟨h1, h2, _⟩ | ⟨hh, F0, P0, h1, h2, h3, h4⟩
  ·exact .inl ⟨h1, h2⟩
  ·exact .inr ⟨hh, F0, P0, h1, h2, h3, few_of h4.1 fun x hx => h4.rng G hx⟩) hE key most
theorem IsT.lowN {dk : DkS} {h H0 : Nat} {root : Int} {F : List Mk} {P : List Int} (ht : IsT (Rn dk) h root F P) (hE : (entsM F).length < 2 ^ (H0 + 1)) : h ≤ H0 := by
 have := (IsT_count ht).2;apply Decidable.byContradiction;intro hx;have h10 : 2 ^ (H0 + 1) ≤ 2 ^ h := Nat.pow_le_pow_right (by decide) (by omega);omega
theorem tput_gen (w : World) (d s : Nat) (dk : DkS) (st : ShS) (F : Nat → Prop) (h : SD w d s dk st F) (G : Good dk st) (root : Int) (E : List Ent) (ht : TreeI dk st root E) (H0 : Nat) (h9 : H0 ≤ 8) (hE : E.length < 2 ^ (H0 + 1)) (hroom : Room dk st (2 * H0 + 3)) (key : Int) (hk : 0 ≤ key ∧ key ≤ 18446744073709551615) (val : ByteArray) (hv : val.size ≤ 40) :
  Calls Tryz.prog 16 #[.pointer (some ⟨s, 0, none⟩), .int .i64 root, .int .u64 key, .string val] w (PutR w d s dk st F (insE key val E)) := by
 have VP : Hid (Calls Tryz.prog 45 #[.pointer (some ⟨w.heap.size, 0, none⟩), .int .i64 root, .int .u64 key, .string val] (w.alloc (visO s 0)) fun e w' => ∃ q, e = .returned (.tuple #[.int .i64 q, .int .i64 0]) ∧ PutR w d s dk st F (insE key val E) (.returned (.tuple #[.int .i64 q, .int .i64 0])) w') := Hd (by
  by_cases h0 : root = 0
  ·obtain ⟨rfl, hl⟩ := ht.root0 h0
   subst h0;refine (vput_nil (w.alloc (visO s 0)) d s w.heap.size dk st 0 _ h.visit G (hroom.le (by omega)) hl key hk val hv).mono ?_;rintro e w' ⟨q, dk', st', r', rfl, hp, hT, hto, _⟩;exact ⟨q, rfl, q, dk', st', rfl, TSPost.ends (dk := dk) (st := st) hp, hT, hto⟩
  ·have hlt : E.length ≤ 600 := by
    have : 2 ^ (H0 + 1) ≤ 2 ^ 9 := Nat.pow_le_pow_right (by decide) (by omega);omega
   obtain ⟨hh, F0, P0, hi, hs, rfl, hl, _⟩ := ht.rootN h0 hlt;have hh0 := hi.lowN hE;refine (vput_some (w.alloc (visO s 0)) d s w.heap.size dk st 0 _ h.visit G root h0 hh F0 P0 hi hs hl (by omega) (by omega) (hroom.le (by omega)) key hk val hv).mono ?_;rintro e w' ⟨q, dk', st', r', rfl, hp, hT, hto, _⟩;exact ⟨q, rfl, q, dk', st', rfl, TSPost.ends (dk := dk) (st := st) hp, hT, hto⟩)
 have hv1 : ¬ (40 : Int) < (val.size : Int) := by omega
 unfold visO at VP;clear h G ht hE hk hv hroom h9;go_enter Tryz.func16, Tryz.ntmps16;go_wp2_with fail;refine VP.out.mono ?_;rintro e w1 ⟨q, rfl, hp⟩;have FIN := Hd hp;clear hp;go_wp2_with fail;go_ret2;exact FIN.out
theorem tdel_gen (w : World) (d s : Nat) (dk : DkS) (st : ShS) (F : Nat → Prop) (h : SD w d s dk st F) (G : Good dk st) (root : Int) (E : List Ent) (ht : TreeI dk st root E) (H0 : Nat) (h9 : H0 ≤ 8) (hE : E.length < 2 ^ (H0 + 1)) (hroom : Room dk st (2 * H0 + 3)) (key : Int) (hk : 0 ≤ key ∧ key ≤ 18446744073709551615) :
  Calls Tryz.prog 18 #[.pointer (some ⟨s, 0, none⟩), .int .i64 root, .int .u64 key] w (DelT w d s dk st F key E) := by
 by_cases h0 : root = 0
 ·obtain ⟨rfl, hl⟩ := ht.root0 h0
  subst h0;refine (tdel_nil w s key).mono fun e w' hq => ⟨0, dk, st, hq.1, ⟨F, h.below hq.2, Frm.of_below hq.2, fun k hk => .inl hk⟩, .inl ⟨rfl, rfl, hl⟩, To.refl G⟩
 ·have hlt : E.length ≤ 600 := by
   have : 2 ^ (H0 + 1) ≤ 2 ^ 9 := Nat.pow_le_pow_right (by decide) (by omega);omega
  obtain ⟨hh, F0, P0, hi, hs, rfl, hl, _⟩ := ht.rootN h0 hlt;have hh0 := hi.lowN hE;refine (tdel_some w d s dk st F h G root h0 hh F0 P0 hi hs hl (by omega) (hroom.le (by omega)) key hk).mono ?_;rintro e w' ⟨q, dk', st', q1, q2, q3, q4⟩;refine ⟨q, dk', st', q1, q2, ?_, q4⟩
  cases hb : getB key (entsM F0) with
  | true => rw [hb] at q3; exact q3
  | false => rw [hb] at q3; rw [delE_off _ _ hb]; exact q3
def TrF (w : World) (d s n : Nat) (root : Int) (E : List Ent) (F : Nat → Prop) : Prop := ∃ dk st, SD w d s dk st F ∧ Good dk st ∧ TreeI dk st root E ∧ dk.S.length = n ∧ st.h = fmtH
def TrR (w0 : World) (R : List Nat) (w : World) (d s n : Nat) (root : Int) (E : List Ent) : Prop :=
 Below w0.heap.size w0 w ∧ ∃ F, TrF w d s n root E F ∧ (∀ k, F k → w0.heap.size ≤ k) ∧ ∀ k ∈ R, k < w.heap.size ∧ ¬ F k
def KeptL (R : List Nat) (w w' : World) : Prop := ∀ k ∈ R, w'.heap[k]? = w.heap[k]?
theorem KeptL.trans {R : List Nat} {a b c : World} (h : KeptL R a b) (k : KeptL R b c) : KeptL R a c := fun i hi => (k i hi).trans (h i hi)
theorem TrF.frm {w w' : World} {d s n : Nat} {root : Int} {E : List Ent} {F G : Nat → Prop} (h : TrF w d s n root E F) (hf : Frm G w w') (hd : ∀ k, F k → ¬ G k) : TrF w' d s n root E F := by
 obtain ⟨dk, st, h1, h2⟩ := h;exact ⟨dk, st, h1.frm hf hd, h2⟩
theorem TrR.size {w0 : World} {R : List Nat} {w : World} {d s n : Nat} {root : Int} {E : List Ent} (h : TrR w0 R w d s n root E) : Below w0.heap.size w0 w := h.1
theorem TrR.below {w0 : World} {R : List Nat} {w w' : World} {d s n : Nat} {root : Int} {E : List Ent} (h : TrR w0 R w d s n root E) (hb : Below w.heap.size w w') : TrR w0 R w' d s n root E := by
 obtain ⟨h1, F, h2, h3, h4⟩ := h;exact ⟨h1.trans (hb.mono h1.size), F, h2.frm (G := fun _ => False) (Frm.of_below hb) (fun _ _ h => h), h3, fun k hk => ⟨Nat.lt_of_lt_of_le (h4 k hk).1 hb.size, (h4 k hk).2⟩⟩
theorem TrR.post {w0 : World} {R : List Nat} {w w' : World} {d s n : Nat} {q : Int} {E : List Ent} {F : Nat → Prop} {dk dk' : DkS} {st st' : ShS} (hb : Below w0.heap.size w0 w) (hF : ∀ k, F k → w0.heap.size ≤ k) (hR : ∀ k ∈ R, k < w.heap.size ∧ ¬ F k) (hp : SDPost w d s dk' st' F w') (hT : TreeI dk' st' q E) (hto : To dk st dk' st') (hn : dk.S.length = n) (hh : st.h = fmtH) : TrR w0 R w' d s n q E ∧ KeptL R w w' := by
 obtain ⟨F', h1, h2, h3⟩ := hp;refine ⟨⟨hb.trans (h2.below hF hb.size), F', ⟨dk', st', h1, hto.g, hT, hto.len.trans hn, hto.h.trans hh⟩, fun k hk => (h3 k hk).elim (hF k) (fun hx => Nat.le_trans hb.size hx), fun k hk => ⟨Nat.lt_of_lt_of_le (hR k hk).1 h2.size, fun hx => ?_⟩⟩, fun k hk => h2.block k (hR k hk).1 (hR k hk).2⟩
 rcases h3 k hx with h4 | h4
 ·exact (hR k hk).2 h4
 ·have := (hR k hk).1; omega
theorem room_R {dk : DkS} {st : ShS} {root : Int} {E : List Ent} (ht : TreeI dk st root E) (G : Good dk st) (hh : st.h = fmtH) (H0 : Nat) (hn : 2 * E.length + 2 * H0 + 5 ≤ dk.S.length) : Room dk st (2 * H0 + 3) := by
 have hu : usedN st dk.S.length = 0 := used_none st hh _ _;exact ht.room G _ (by omega)
theorem put_R {w0 : World} {R : List Nat} {w : World} {d s n : Nat} {root : Int} {E : List Ent} (h : TrR w0 R w d s n root E) (H0 : Nat) (h9 : H0 ≤ 8) (hE : E.length < 2 ^ (H0 + 1)) (hn : 2 * E.length + 2 * H0 + 5 ≤ n) (key : Int) (hk : 0 ≤ key ∧ key ≤ 18446744073709551615) (val : ByteArray) (hv : val.size ≤ 40) :
  Calls Tryz.prog 16 #[.pointer (some ⟨s, 0, none⟩), .int .i64 root, .int .u64 key, .string val] w fun e w' => ∃ q, e = .returned (.tuple #[.int .i64 q, .int .i64 0]) ∧ TrR w0 R w' d s n q (insE key val E) ∧ KeptL R w w' := by
 obtain ⟨hb, F, ⟨dk, st, h1, G, ht, hl, hh⟩, hF, hR⟩ := h;refine (tput_gen w d s dk st F h1 G root E ht H0 h9 hE (room_R ht G hh H0 (by omega)) key hk val hv).mono ?_;rintro e w' ⟨q, dk', st', rfl, hp, hT, hto⟩;exact ⟨q, rfl, TrR.post hb hF hR hp hT hto hl hh⟩
theorem del_R {w0 : World} {R : List Nat} {w : World} {d s n : Nat} {root : Int} {E : List Ent} (h : TrR w0 R w d s n root E) (H0 : Nat) (h9 : H0 ≤ 8) (hE : E.length < 2 ^ (H0 + 1)) (hn : 2 * E.length + 2 * H0 + 5 ≤ n) (key : Int) (hk : 0 ≤ key ∧ key ≤ 18446744073709551615) :
  Calls Tryz.prog 18 #[.pointer (some ⟨s, 0, none⟩), .int .i64 root, .int .u64 key] w fun e w' => ∃ q, e = .returned (.tuple #[.int .i64 q, .bool (getB key E), .int .i64 0]) ∧ TrR w0 R w' d s n q (delE key E) ∧ KeptL R w w' := by
 obtain ⟨hb, F, ⟨dk, st, h1, G, ht, hl, hh⟩, hF, hR⟩ := h;refine (tdel_gen w d s dk st F h1 G root E ht H0 h9 hE (room_R ht G hh H0 (by omega)) key hk).mono ?_;rintro e w' ⟨q, dk', st', rfl, hp, hT, hto⟩;exact ⟨q, rfl, TrR.post hb hF hR hp hT hto hl hh⟩
theorem get_R {w0 : World} {R : List Nat} {w : World} {d s n : Nat} {root : Int} {E : List Ent} (h : TrR w0 R w d s n root E) (hE : E.length ≤ 600) (key : Int) (hk : 0 ≤ key ∧ key ≤ 18446744073709551615) :
  Calls Tryz.prog 22 #[.pointer (some ⟨s, 0, none⟩), .int .i64 root, .int .u64 key] w fun e w' => e = .returned (.tuple #[.string (getV key E), .bool (getB key E), .int .i64 0]) ∧ Below w.heap.size w w' := by
 obtain ⟨hb, F, ⟨dk, st, h1, G, ht, hl, hh⟩, hF, hR⟩ := h;exact tget_is w d s dk st F h1 G root E ht.reads hE key hk
theorem getNil_R {w0 : World} {R : List Nat} {w : World} {d s n : Nat} {root : Int} {E : List Ent} (h : TrR w0 R w d s n root E) (key : Int) (hk : 0 ≤ key ∧ key ≤ 18446744073709551615) :
  Calls Tryz.prog 22 #[.pointer (some ⟨s, 0, none⟩), .int .i64 0, .int .u64 key] w fun e w' => e = .returned (.tuple #[.string ⟨#[]⟩, .bool false, .int .i64 0]) ∧ Below w.heap.size w w' := by
 obtain ⟨hb, F, ⟨dk, st, h1, G, ht, hl, hh⟩, hF, hR⟩ := h;exact tget_is w d s dk st F h1 G 0 [] (.inl ⟨rfl, rfl⟩) (by simp) key hk
theorem root_nil {w0 : World} {R : List Nat} {w : World} {d s n : Nat} {root : Int} {E : List Ent} (h : TrR w0 R w d s n root E) (hE : E = [] := by rfl) : root = 0 := by
 subst hE;obtain ⟨hb, F, ⟨dk, st, h1, G, ht, hl, hh⟩, hF, hR⟩ := h
 rcases ht with ⟨h1, _⟩ | ⟨hh, F, P, hi, _, he, _⟩
 ·exact h1
 ·have := (IsT_count hi).2
  rw [he] at this;have h2 : 0 < 2 ^ hh := Nat.pow_pos (by decide);simp at this
attribute [local go_sem] Oper.semAt_some
def rowP (L : List Int) : List Value := L.map (Value.int .i64)
theorem info_int11 : ∃ i z, Tryz.prog.info? 3 = some i ∧ i.zero = some z ∧ i.size = 1 ∧ i.bytes = 8 ∧ z.cells.size = 1 := by
 have h : (Tryz.prog.info? 3).bind (fun i => i.zero.map fun z => (i.size, i.bytes, z.cells.size)) = some (1, 8, 1) := by kernel_rfl
 cases hq : Tryz.prog.info? 3 with
 | none => rw [hq] at h; cases h
 | some i =>
  rw [hq] at h
  cases hz : i.zero with
  | none => simp [hz] at h
  | some z => simp [hz] at h; exact ⟨i, z, rfl, hz, h.1, h.2.1, h.2.2⟩
def PsI (lb : Nat) (pre : List Int) (C : Nat → Prop) (W : World) : Prop :=
 ∃ v, W.heap[lb]? = some (.cells #[v] 22) ∧ W.ownsRow (lb + 1) 3 1 v pre.length (rowP pre) ∧ ∀ k, C k ↔ k = lb ∨ v.ownBlock = some k
theorem PsI.on {lb : Nat} {pre : List Int} {C : Nat → Prop} {A B : World} (h : PsI lb pre C A) (ho : OnC C A B) : PsI lb pre C B := by
 obtain ⟨v, h1, h3, h4⟩ := h;have lt : ∀ {k : Nat} {o : Obj}, A.heap[k]? = some o → k < A.heap.size := fun h => (zl h)
 refine ⟨v, (ho.block _ (lt h1) ((h4 _).2 (.inl rfl))).trans h1, ⟨h3.1, ?_⟩, h4⟩
 rcases h3.2 with hx | ⟨g, cap, cur, hv, hbg, hh, r⟩
 ·exact .inl hx
 ·exact .inr ⟨g, cap, cur, hv, hbg, (ho.block g (lt hh) ((h4 g).2 (.inr (by rw [hv]; rfl)))).trans hh, r⟩
theorem PsI.lt {lb : Nat} {pre : List Int} {C : Nat → Prop} {A : World} (h : PsI lb pre C A) (k : Nat) (hk : C k) : k < A.heap.size := by
 obtain ⟨v, h1, h3, h4⟩ := h
 rcases (h4 k).1 hk with rfl | h5
 ·exact (zl h1)
 ·exact (h3.lt k h5).2
theorem pages_is (w : World) (d s : Nat) (dk : DkS) (st : ShS) (F : Nat → Prop) (h : SD w d s dk st F) (G : Good dk st) (root : Int) (E : List Ent) (ht : TreeI dk st root E) (hE : E.length ≤ 600) :
  Calls Tryz.prog 20 #[.pointer (some ⟨s, 0, none⟩), .int .i64 root] w fun e w' => ∃ v P, e = .returned (.tuple #[v, .int .i64 0]) ∧ LiveL st P ∧ w'.ownsRow w.heap.size 3 1 v P.length (rowP P) ∧ SD w' d s dk st F ∧ Frm F w w' := by
 by_cases hz : root = 0
 ·have hL : LiveL st [] := (ht.root0 hz).2
  have FIN : Hid (∀ w', Below w.heap.size w w' → w'.ownsRow w.heap.size 3 1 (.slice none 0 0) 0 [] ∧ SD w' d s dk st F ∧ Frm F w w') := Hd (fun w' hb => ⟨World.ownsRow_nil _ _ _ _, h.below hb, Frm.of_below hb⟩);have hr : (root == 0) = true := by rw [hz]; rfl
  have HL := Hd hL;clear h G ht hz hL;go_enter Tryz.func20, Tryz.ntmps20;go_wp2_with fail;go_ret2;exact ⟨_, [], rfl, HL.out, FIN.out _ Br⟩
 ·rcases ht with ⟨rfl, rfl, _⟩ | ⟨hh, F0, P0, hi, hs, rfl, hl⟩
  ·exact absurd rfl hz
  have h9 := hi.low hE;have hP : P0.length ≤ 640 := few_of hl.1 fun x hx => hl.rng G hx
  have h0' : (root == 0) = false := beq_eq_false_iff_ne.2 hz;have hu := G.su;have HLV := Hd hl;obtain ⟨n0, hn0⟩ : ∃ n0, w.heap.size = n0 := ⟨_, rfl⟩
  obtain ⟨x1, hx1⟩ : ∃ x1, w.alloc (visO s 0) = x1 := ⟨_, rfl⟩
  have b1 := below_made w (visO s 0);have T1 := h.visit;have z1 : (w.alloc (visO s 0)).heap.size = n0 + 1 := by simp [hn0]
  rw [hx1, hn0] at b1 T1;rw [hx1] at z1;obtain ⟨x2, hx2⟩ : ∃ x2, x1.alloc (.cells #[.slice none 0 0] 22) = x2 := ⟨_, rfl⟩
  have b2 := below_made x1 (.cells #[.slice none 0 0] 22);have l2 := han x1 (.cells #[.slice none 0 0] 22);have z2 : (x1.alloc (.cells #[.slice none 0 0] 22)).heap.size = n0 + 2 := by simp [z1]
  rw [hx2, z1] at b2 l2;rw [hx2] at z2;have T2 := T1.below (by rw [z1]; exact b2);have bw2 : Below n0 w x2 := b1.trans (b2.mono (by omega));have FI := Hd (below_is x2 n0 root 1);have hx1' : w.alloc (.cells #[.pointer (some ⟨s, 0, none⟩), .int .i64 0, .int .i64 0] 88) = x1 := hx1;clear hx1;refine (callsIn_wide (n := 0)).1 (callsIn_of_wp_marks (F := Fence.wide) (n := 0) Tryz.func20 rfl trivial (wpIn_wide.2 ?_) rfl)
  simp only [Tryz.ntmps20, List.size_toArray, List.length_cons, List.length_nil, Nat.reduceAdd, Nat.reduceSub, Array.replicate_succ, Array.replicate_zero, List.push_toArray, List.append_toArray, List.nil_append, List.cons_append];have HL := Hd l2;have HT2 := Hd T2;have HB := Hd (And.intro bw2 z2);have HH := Hd h;have HI := Hd (And.intro hi (And.intro hs (And.intro h9 hP)));have HX := Hd (And.intro hx1' hx2);have HN := Hd hn0;clear T1 T2 b1 b2 l2 bw2 h hi hs hl hz hE G z1 hx1' hx2 hn0 h9 hP;go_wp2_with fail;rw [HX.out.1, HX.out.2, HN.out];refine FI.out.mono ?_;rintro e w6 ⟨rfl, hbx, b6, s6⟩
  rw [z2] at hbx b6 s6 ⊢;simp only [Nat.add_assoc, Nat.reduceAdd] at hbx s6 ⊢;clear z2 FI;go_wp2_with fail;have hF0 : ∀ k, F k → k < n0 := fun k hk => by rw [← HN.out]; exact HH.out.lt k hk
  have hT6 := HT2.out.below (by rw [HB.out.2]; exact b6);have hl6 : w6.heap[n0 + 1]? = some (.cells #[.slice none 0 0] 22) := (b6.block _ (by omega)).trans HL.out;have hb6 : Below n0 w w6 := HB.out.1.trans (b6.mono (by omega))
  have hit := below_iter hh w6 d s n0 dk st 0 (fun k => F k ∨ k = n0) hT6 hu root F0 P0 HI.out.1 1 (by omega) (by have := HI.out.2.2.1; omega) (by have := HI.out.2.2.2; omega) (n0 + 2) (n0 + 3) (n0 + 4) hbx ⟨fun h => by rcases h with h | h; (have := hF0 _ h; omega); omega, fun h => by rcases h with h | h; (have := hF0 _ h; omega); omega, fun h => by rcases h with h | h; (have := hF0 _ h; omega); omega⟩
  have hGn : ∀ k, FP (fun k => F k ∨ k = n0) (n0 + 2) (n0 + 3) (n0 + 4) k → F k ∨ k = n0 ∨ n0 + 2 ≤ k := fun k hk => by
   rcases hk with (hk | hk) | hk | hk | hk
   ·exact .inl hk
   ·exact .inr (.inl hk)
   all_goals exact .inr (.inr (by omega))
  have FIN : ∀ (D : Nat) (v : Value) (L : List Int) (C' : Nat → Prop) (W W' : World), w6.heap.size ≤ D → (∀ k, C' k ↔ k = n0 + 1 ∨ v.ownBlock = some k) → W.ownsRow (n0 + 1 + 1) 3 1 v L.length (rowP L) → VP d s n0 dk st 0 (fun k => F k ∨ k = n0) P0.length W → Frm (fun k => (k = n0 + 1) ∨ FP (fun k => F k ∨ k = n0) (n0 + 2) (n0 + 3) (n0 + 4) k) w6 W → ¬ C' D → Frm (fun k => k ∈ [D]) W W' → W'.ownsRow n0 3 1 v L.length (rowP L) ∧ SD W' d s dk st F ∧ Frm F w W' := by
   intro D v L C' W W' hD hC hown hV hfr hnD hm;refine ⟨?_, ?_⟩
   ·have h1 := own_frmZ hown hm fun k hk hd => by
     rw [List.mem_singleton] at hd;exact hnD ((hC D).2 (.inr (hd ▸ hk)))
    refine ⟨h1.1, ?_⟩
    rcases h1.2 with hx | ⟨g, cap, cur, hv, hbg, r⟩
    ·exact .inl hx
    ·exact .inr ⟨g, cap, cur, hv, by omega, r⟩
   ·obtain ⟨r', _, _, FD, FS, hti, he⟩ := hV
    have hDn : n0 + 5 ≤ D := by omega
    have hSD : SD W d s dk st F := ⟨FD, FS, hti.ds, fun k => ⟨fun hk => ?_, fun hk => ?_⟩⟩
    ·refine ⟨hSD.frm hm fun k hk hd => ?_, ?_⟩
     ·rw [List.mem_singleton] at hd
      have := hF0 k hk;omega
     ·refine ((Frm.of_below (by rw [HN.out]; exact hb6)).trans hfr fun k hk => ?_).trans hm fun k hk => ?_
      ·rw [HN.out]
       rcases hk with hk | hk
       ·exact .inr (by omega)
       ·rcases hGn k hk with h1 | h1 | h1
        ·exact .inl h1
        ·exact .inr (by omega)
        ·exact .inr (by omega)
      ·rw [List.mem_singleton] at hk
       rw [HN.out];exact .inr (by omega)
    ·rcases (he k).1 (.inl hk) with h1 | h1 | h1
     ·exact .inl h1
     ·exact .inr h1
     ·have := hF0 k hk; omega
    ·rcases (he k).2 (hk.imp id .inl) with h1 | h1
     ·exact h1
     ·rw [h1] at hk
      rcases hk with hk | hk
      ·exact absurd hk hti.gd
      ·exact absurd hk hti.gs
  have HFIN := Hd FIN;clear FIN;refine (wpIn_wide (n := 0)).1 (rangeK rfl (enters_of Tryz.func91 (by kernel_rfl) rfl) hit (fun Wz lz o hz hv => ?_) (fun k hk => ?_) (by intro _; rfl) (fun k => k = n0 + 1) (fun k hk hg => ?_) (fun pre C W => PsI (n0 + 1) pre C W) (fun c pre C W => False) (fun s D A B hh ho => hh.on ho) (fun c s D A B hh ho => hh) (fun s D A hh => hh.lt) (fun c s D A hh => hh.elim) ⟨.slice none 0 0, hl6, World.ownsRow_nil _ _ _ _, fun k => by simp [Value.ownBlock]⟩ ?_ ?_ ?_)
  ·obtain ⟨r', g1, g2, g3⟩ := hv
   exact ⟨r', g1, g2, g3.frm (putObj_frm Wz lz o) fun k hk e => by have := hT6.lt k hk; omega⟩
  ·rcases hGn k hk with h1 | h1 | h1
   ·have := hF0 k h1; omega
   ·omega
   ·rcases hk with hk | hk | hk | hk
    ·exact hT6.lt k hk
    all_goals omega
  ·subst hk
   rcases hGn _ hg with h1 | h1 | h1
   ·have := hF0 _ h1; omega
   ·omega
   ·omega
  ·intro l pre x C1 Wz hpre hI hD hz hnl hll
   unfold encP;gi_wp2;refine ⟨Br, fun Wb hfb hIb => ?_⟩;have HI0 := Hd hIb;obtain ⟨v, e1, hown, hDi⟩ := hIb;obtain ⟨cy, cyf⟩ := box1 e1;obtain ⟨va, vc, rfl, hv1, hv2⟩ := own_shape7 hown;obtain ⟨i, z, hi, hz0, hz1, hz2, hz3⟩ := info_int11;have OWN := Hd hown;have HD := Hd hDi;have HB1 := Hd e1
   have hlen : pre.length ≤ 640 := by
    have h1 := hpre.length_le;simp at h1;have := HI.out.2.2.2;omega
   clear hown hDi e1 hfb
   gi_wp2_with (gi_at_builtin; refine wpListIn_append_own_at _ rfl (.tmp 16) (.tmp 18) 22 rfl (n0 + 1 + 1) 3 i z 1 8 Tryz.underlying22 hi hz0 hz1 hz2 hz3 (by decide) _ _ _ rfl (OWN.out.alloc _) ⟨Wb.heap.size, 0, none⟩ 1 1 [.int .i64 x] rfl rfl ?c1 ?c2 ?c3 ?c4 ?c5 ?_)
   case c1 =>
    intro j u hj
    match j, hj with
    | 0, hj =>
     injection hj with hj;subst hj;exact cells1 (han Wb _)
    | j + 1, hj => simp at hj
   case c2 =>
    intro u hu;simp only [List.mem_cons, List.not_mem_nil, or_false] at hu;subst hu
    rfl
   case c3 => unfold maxLen; omega
   case c4 => omega
   case c5 =>
    have := HI0.out.lt (n0 + 1) ((by obtain ⟨_, _, _, h9⟩ := HI0.out; exact (h9 _).2 (.inl rfl)));simp;omega
   intro v' w9 hown' hgrow hnil hat;rw [show rowP pre ++ [Value.int .i64 x] = rowP (pre ++ [x]) by simp [rowP]] at hown';have olt : ∀ k, (Value.slice va pre.length vc).ownBlock = some k → n0 + 1 + 1 ≤ k ∧ k < Wb.heap.size := fun k hk => OWN.out.lt k hk
   have lts := HI0.out.lt;have lb9 := lts (n0 + 1) ((HD.out _).2 (.inl rfl));have ks : ∀ k, k < n0 + 2 → k < Wb.heap.size → w9.heap[k]? = Wb.heap[k]? := fun k h1 h2 => (hgrow.block k (by simp; omega) (fun e => by have := olt k e.symm; omega)).trans (hao _ _ h2)
   have a1 := (ks _ (by omega) lb9).trans HB1.out;obtain ⟨d1, d1f⟩ := box1 a1;obtain ⟨va', vc', rfl, _, _⟩ := own_shape7 hown'
   have FR : Hid (∀ wf, w9.setCell ⟨n0 + 1, 0, none⟩ (.slice va' (pre.length + 1) vc') = wf → Own1 C1 Wb (fun k => k = n0 + 1 ∨ (Value.slice va' (pre.length + 1) vc').ownBlock = some k) wf ∧ PsI (n0 + 1) (pre ++ [x]) (fun k => k = n0 + 1 ∨ (Value.slice va' (pre.length + 1) vc').ownBlock = some k) wf) := Hd (fun wf hwf => by
    have og := hown'.lt;refine ⟨⟨?_, fun k hk => ?_⟩, ?_⟩
    ·rw [← hwf]
     exact ((((Frm.refl _ Wb).alloc _).grown hgrow fun k hk => .inl ((HD.out k).2 (.inr hk))).setCell _ _ (.inl ((HD.out _).2 (.inl rfl))))
    ·rcases hk with rfl | hk
     ·exact .inl ((HD.out _).2 (.inl rfl))
     ·rcases hat with h1 | h1
      ·exact .inl ((HD.out k).2 (.inr (h1 ▸ hk)))
      ·rw [h1] at hk; injection hk with hk; exact .inr (by omega)
    ·refine ⟨.slice va' (pre.length + 1) vc', ?_, ?_, fun k => Iff.rfl⟩
     ·rw [← hwf, hss _ _ 0 _ _ _ a1]; rfl
     ·rw [← hwf, List.length_append]
      exact ownsRow_setCell_other hown' (fun e => by have h : n0 + 1 + 1 ≤ n0 + 1 := (og _ e).1; omega) _)
   clear hown' hgrow hnil hat olt ks a1 lts lb9 HB1 OWN HD hi hz0 hz1 hz2 hz3 hv1 hv2;gi_wp2;obtain ⟨f1, f2⟩ := FR.out _ rfl;exact ⟨_, f1, f2⟩
  ·intro D C' W hD hI hV hfr hC' hnD hdef
   obtain ⟨v, e1, hown, hCC⟩ := hI;have HE := Hd (HFIN.out D v _ C' W · hD hCC hown hV hfr hnD)
   have z2 : W.cell? ⟨n0, 2, none⟩ = some (.int .i64 0) := by
    obtain ⟨r', _, _, FD, FS, hti, _⟩ := hV;exact (vis_cells hti.v).2.2.1
   have c1 := (box1 e1).1;have HM : Hid (Marks W [D]) := Hd ((Marks.nil W).cons (by simp) hdef);clear hown hV hfr hdef hit;go_wp2_with fail;refine leavesM [D] W HM.out fun W' hm => ⟨_, results_tmp2 (fn := Tryz.f20) rfl _ _ _, ?_⟩
   refine ⟨v, P0, rfl, HLV.out, ?_⟩;rw [HN.out];exact HE.out W' hm
  ·rintro D c pre C' W hD hpre hx
   exact hx.elim


theorem rowsE_at : ∀ (L : List Ent) (j : Nat) (e : Ent), L[j]? = some e → (rowsE L)[j * 2]? = some (.int .u64 e.1) ∧ (rowsE L)[j * 2 + 1]? = some (.string e.2) := by
 intro L
 induction L with
 | nil => intro j e h; simp at h
 | cons x L ih =>
  intro j e h;have hc : rowsE (x :: L) = .int .u64 x.1 :: .string x.2 :: rowsE L := by simp [rowsE, rowE]
  rw [hc]
  cases j with
  | zero => simp at h; subst h; exact ⟨rfl, rfl⟩
  | succ j =>
   have := ih j e (by simpa using h);rw [show (j + 1) * 2 = j * 2 + 1 + 1 by omega];exact ⟨this.1, this.2⟩
def RowE (w : World) (v : Value) (L : List Ent) : Prop := w.ownsRow 0 50 2 v L.length (rowsE L)
theorem RowE.shape {w : World} {v : Value} {L : List Ent} (h : RowE w v L) : ∃ a c, v = .slice a L.length c := by
 obtain ⟨a, c, h1, _, _⟩ := own_shape7 h;exact ⟨a, c, h1⟩
theorem RowE.at {w : World} {a : Option Addr} {c : Nat} {L : List Ent} (h : RowE w (.slice a L.length c) L) {j : Nat} {e : Ent} (he : L[j]? = some e) : ∃ g, a = some ⟨g, 0, none⟩ ∧ g < w.heap.size ∧ w.cell? ⟨g, j * 2, none⟩ = some (.int .u64 e.1) ∧ w.cell? ⟨g, j * 2 + 1, none⟩ = some (.string e.2) := by
 have hj : j < L.length := (List.getElem?_eq_some_iff.1 he).1;obtain ⟨r1, r2⟩ := rowsE_at L j e he
 rcases h.2 with ⟨_, h0⟩ | ⟨g, cap, cur, hv, _, hh, _⟩
 ·omega
 ·injection hv with h1 h2 h3
  subst h1 h3;exact ⟨g, rfl, (zl hh), (h.cellAt (j * 2) (by omega)).trans r1, (h.cellAt (j * 2 + 1) (by omega)).trans r2⟩
theorem RowE.len {w : World} {v : Value} {L : List Ent} (h : RowE w v L) : (L.length : Int) ≤ 9223372036854775807 := by
 obtain ⟨a, c, _, h2, h3⟩ := own_shape7 h;unfold maxLen at h3;omega
theorem RowE.kept {w w' : World} {v : Value} {L : List Ent} (h : RowE w v L) (hk : ∀ k, v.ownBlock = some k → w'.heap[k]? = w.heap[k]?) : RowE w' v L := by
 refine ⟨h.1, ?_⟩
 rcases h.2 with hx | ⟨g, cap, cur, hv, hbg, hh, r⟩
 ·exact .inl hx
 ·exact .inr ⟨g, cap, cur, hv, hbg, (hk g (by rw [hv]; rfl)).trans hh, r⟩
theorem RowE.below {w w' : World} {v : Value} {L : List Ent} (h : RowE w v L) (hb : Below w.heap.size w w') : RowE w' v L := h.kept fun k hk => hb.block k (World.ownsRow.lt h k hk).2
theorem entries_same (w : World) (v1 v2 : Value) (L : List Ent) (h1 : RowE w v1 L) (h2 : RowE w v2 L) :
  Calls Tryz.prog 24 #[v1, v2] w fun e w' => e = .returned (.bool true) ∧ Below w.heap.size w w' := by
 obtain ⟨a1, c1, rfl⟩ := h1.shape;obtain ⟨a2, c2, rfl⟩ := h2.shape;have hL := h1.len;have H1 := Hd h1;have H2 := Hd h2;have hnn : (0 : Int) ≤ (L.length : Int) := Int.natCast_nonneg _;clear h1 h2;go_enter Tryz.func24, Tryz.ntmps24;go_wp2_with fail
 go_loopw [5] (fun i wr => ∃ j : Nat, i = .int .i64 (j : Int) ∧ j ≤ L.length ∧ Hid (Below w.heap.size w wr)) (fun i _ => L.length - (intOf i).toNat)
 case atStart => exact ⟨0, rfl, Nat.zero_le _, Hd Br⟩
 case round =>
  obtain ⟨j, rfl, hj, HB⟩ := hrel
  by_cases hlt : j < L.length
  ·have hli : (j : Int) < (L.length : Int) := by omega
   obtain ⟨e, he⟩ : ∃ e, L[j]? = some e := ⟨_, List.getElem?_eq_getElem hlt⟩
   obtain ⟨g1, rfl, _, k1, k2⟩ := (H1.out.below HB.out).at he;obtain ⟨g2, rfl, _, l1, l2⟩ := (H2.out.below HB.out).at he;have e4 : IntKind.i64.wrap ((j : Int) + 1) = ((j + 1 : Nat) : Int) := by rw [show (j : Int) + 1 = ((j + 1 : Nat) : Int) by omega]; exact IntWalk.i64_in _ (by omega)
   have HE := Hd he;have HJ := Hd hlt;clear he hlt hj;go_wp2_with fail
   go_quiet (fail)
   have HQ : Hid (Below w.heap.size w (wr.drewN nq)) := Hd ⟨HB.out.os, HB.out.tape, HB.out.output, HB.out.size, HB.out.block⟩;clear k1 k2 l1 l2;go_wp2_with fail;go_roundw
   case rel => exact ⟨j + 1, rfl, HJ.out, HQ⟩
   case measure => have := HJ.out; simp [intOf]; omega
  ·obtain rfl : j = L.length := by omega
   have hli : ¬ ((L.length : Nat) : Int) < (L.length : Int) := by omega
   go_wp2_with fail;go_ret;exact ⟨rfl, HB.out⟩

structure HdsOk (dk : DkS) (h : HdS) : Prop where
 ok : HdOk h
 g1 : 1 ≤ h.gen
 gm : h.gen ≤ 1000
 rt : h.root ≤ 65535
 cur : dk.S[(h.gen % 2).toNat]? = some (hdL h)
 oth : dk.S[((h.gen + 1) % 2).toNat]? = some zs ∨ ∃ h', dk.S[((h.gen + 1) % 2).toNat]? = some (hdL h') ∧ HdOk h' ∧ h'.root ≤ 65535 ∧ h'.gen < h.gen
 cn : countsB h (h.gen % 2) (dk.S.length : Int) = true
theorem HdsOk.to {dk dk' : DkS} {h : HdS} (k : HdsOk dk h) (hl : dk'.S.length = dk.S.length) (hS : ∀ n : Nat, n < 2 → dk'.S[n]? = dk.S[n]?) : HdsOk dk' h := by
 obtain ⟨h1, h2, h3, h4, h5, h6, h7⟩ := k;have e1 := hS (h.gen % 2).toNat (by omega);have e2 := hS ((h.gen + 1) % 2).toNat (by omega);exact ⟨h1, h2, h3, h4, e1.trans h5, by rw [e2]; exact h6, by rw [hl]; exact h7⟩
structure Cm (dk : DkS) (st : ShS) (E : List Ent) (P : List Int) : Prop where
 hd : HdsOk dk st.h
 nd : P.Nodup
 us : ∀ x, hasB st.h.used x = true ↔ x ∈ P
 tr : (st.h.root = 0 ∧ E = [] ∧ P = []) ∨ ∃ h F, IsT (Rn dk) h st.h.root F P ∧ SortM F ∧ entsM F = E
theorem Cm.few {dk : DkS} {st : ShS} {E : List Ent} {P : List Int} (c : Cm dk st E P) : P.length ≤ 2 * E.length := by
 rcases c.tr with ⟨_, rfl, rfl⟩ | ⟨h, F, ht, _, rfl⟩
 ·exact Nat.le_refl _
 ·have := (IsT_count ht).1; omega
theorem Cm.to {dk dk' : DkS} {st st' : ShS} {E : List Ent} {P : List Int} (c : Cm dk st E P) (G : Good dk st) (t : To dk st dk' st') : Cm dk' st' E P := by
 refine ⟨?_, c.nd, by rw [t.h]; exact c.us, ?_⟩
 ·rw [t.h]; exact c.hd.to t.len fun n hn => t.keep n (.inl hn)
 ·rw [t.h]
  rcases c.tr with h | ⟨h, F, ht, hs, he⟩
  ·exact .inl h
  ·refine .inr ⟨h, F, IsT_congr ht fun p hp => Rn_eq G.du t.g.du t.len p fun h2 => ?_, hs, he⟩
   refine t.keep p.toNat (.inr ?_);rw [show ((p.toNat : Nat) : Int) = p by omega];exact (c.us p).2 hp
def useL (st : ShS) (k : Nat) : List Int := ((List.range k).filter fun (i : Nat) => decide (2 ≤ i) && hasB st.h.used (i : Int)).map fun (i : Nat) => (i : Int)
theorem useL_len (st : ShS) (size k : Nat) : usedL st size k = (useL st k).length := by
 induction k with
 | zero => rfl
 | succ k ih =>
  unfold usedL;rw [ih];unfold useL;rw [List.range_succ, List.filter_append, List.map_append, List.length_append]
  congr 1
  by_cases h : 2 ≤ k ∧ hasB st.h.used (k : Int) = true
  ·rw [if_pos h]; simp [h.1, h.2]
  ·rw [if_neg h]
   by_cases h2 : 2 ≤ k
   ·have h3 : hasB st.h.used (k : Int) = false := by
     cases hb : hasB st.h.used (k : Int) with
     | false => rfl
     | true => exact absurd ⟨h2, hb⟩ h
    simp [h3]
   ·simp [h2]
theorem Cm.usedN {dk : DkS} {st : ShS} {E : List Ent} {P : List Int} (c : Cm dk st E P) (n : Nat) : usedN st n ≤ P.length := by
 show usedL st n n ≤ _
 rw [useL_len];refine subset_len _ _ ?_ fun x hx => ?_
 ·unfold useL
  rw [List.nodup_iff_pairwise_ne, List.pairwise_map];exact List.Pairwise.imp (fun h e => h (by omega)) (List.Pairwise.filter _ (List.nodup_iff_pairwise_ne.1 List.nodup_range))
 ·unfold useL at hx
  obtain ⟨i, hi, rfl⟩ := List.mem_map.1 hx;have := (List.mem_filter.1 hi).2;rw [Bool.and_eq_true] at this;exact (c.us _).1 this.2
theorem Cm.room {dk : DkS} {st : ShS} {E0 E : List Ent} {P : List Int} {root : Int} (c : Cm dk st E0 P) (ht : TreeI dk st root E) (G : Good dk st) (H0 : Nat) (hn : 2 * E0.length + 2 * E.length + 2 * H0 + 5 ≤ dk.S.length) : Room dk st (2 * H0 + 3) := by
 have h1 := c.usedN dk.S.length;have h2 := c.few;exact ht.room G _ (by omega)
theorem Cm.tree {dk : DkS} {st : ShS} {E : List Ent} {P : List Int} (c : Cm dk st E P) (hf : st.fresh = []) (hg : st.given = []) : TreeI dk st st.h.root E := by
 have hl : LiveL st P := ⟨c.nd, fun x => by unfold Live; rw [hf, hg, ← c.us]; simp⟩
 rcases c.tr with ⟨h1, h2, rfl⟩ | ⟨h, F, ht, hs, he⟩
 ·exact .inl ⟨h1, h2, hl⟩
 ·exact .inr ⟨h, F, P, ht, hs, he, hl⟩
theorem next_has {dk : DkS} {st : ShS} (G : Good dk st) (hu : st.h.used.size = 80) (x : Int) : hasB (nextU st) x = true ↔ Live st x := by
 have hf := G.few;have r1 : ∀ y ∈ st.fresh, roomB st.h.used y = true := fun y hy => (room_iff _ _).2 (by have := G.fb y hy; omega)
 have r2 : ∀ y ∈ st.given, roomB (withAll st.h.used st.fresh true) y = true := fun y hy => by
  have := G.ub y (G.gb y hy);exact (room_iff _ _).2 (by rw [withAll_size]; omega)
 unfold nextU;rw [has_withAll _ _ _ _ r2, has_withAll _ _ _ _ r1];unfold Live
 by_cases h1 : x ∈ st.given
 ·rw [if_pos h1]
  have h2 : x ∉ st.fresh := fun h => by
   have := (G.fb x h).2.2;rw [G.gb x h1] at this
   cases this
  constructor
  ·intro h; cases h
  ·rintro (h | ⟨_, h⟩)
   ·exact absurd h h2
   ·exact absurd h1 h
 ·rw [if_neg h1]
  by_cases h2 : x ∈ st.fresh
  ·rw [if_pos h2]; exact ⟨fun _ => .inl h2, fun _ => rfl⟩
  ·rw [if_neg h2]
   exact ⟨fun h => .inr ⟨h, h1⟩, fun h => h.elim (fun h => absurd h h2) (·.1)⟩
theorem commit_cm {dk : DkS} {st : ShS} {root : Int} {E E0 : List Ent} {P0 : List Int} (c : Cm dk st E0 P0) (G : Good dk st) (ht : TreeI dk st root E) (hg : st.h.gen ≤ 900) :
  ∃ dk' st' P, st.commit dk root = (dk', st', 0) ∧ Good dk' st' ∧ Cm dk' st' E P ∧ st'.fresh = [] ∧ st'.given = [] ∧ st'.h.root = root ∧ st'.h.gen = st.h.gen + 1 ∧ dk'.S.length = dk.S.length := by
 have hu80 := c.hd.ok.u;have g1 := c.hd.g1
 obtain ⟨P, hL, htr⟩ : ∃ P, LiveL st P ∧ ((root = 0 ∧ E = [] ∧ P = []) ∨ ∃ h F, IsT (Rn dk) h root F P ∧ SortM F ∧ entsM F = E) := by
  rcases ht with ⟨h1, h2, h3⟩ | ⟨h, F, P, h1, h2, h3, h4⟩
  ·exact ⟨[], h3, .inl ⟨h1, h2, rfl⟩⟩
  ·exact ⟨P, h4, .inr ⟨h, F, h1, h2, h3⟩⟩
 have hr : root = 0 ∨ root ∈ P := by
  rcases htr with ⟨h, _⟩ | ⟨h, F, ⟨M, PM, _, _, _, rfl⟩, _⟩
  ·exact .inl h
  ·exact .inr (by simp)
 have hfew := G.few
 have hrng : ∀ x ∈ P, 2 ≤ x ∧ x < (dk.S.length : Int) := fun x hx => by
  rcases (hL.2 x).1 hx with h | h
  ·have := G.fb x h; omega
  ·exact G.ub x h.1
 have hr2 : 0 ≤ root ∧ root ≤ 640 := by
  rcases hr with h | h
  ·omega
  ·have := hrng _ h; omega
 have hm : mayB st root = true := by
  unfold mayB
  rcases hr with rfl | h
  ·rfl
  ·rcases (hL.2 root).1 h with h1 | ⟨h1, h2⟩
   ·rw [decide_eq_true h1]; simp
   ·rw [h1, decide_eq_false h2]; simp
 have hc := commit_ok st dk root G.su hm (by omega) (by omega) hu80 G.du (by rw [G.df]; decide) G.least;have hs : dk.sync = ({ dk with L := [] }, 0) := by unfold DkS.sync; rw [if_neg (by rw [G.du]; decide)]
 have hnu : (nextH st root).used.size = 80 := by
  show (nextU st).size = 80
  unfold nextU;rw [withAll_size, withAll_size]; exact hu80
 obtain ⟨H, hH⟩ : ∃ H, nextH st root = H := ⟨_, rfl⟩
 have Hg : H.gen = st.h.gen + 1 := by rw [← hH]; rfl
 have Hr : H.root = root := by rw [← hH]; rfl
 have Hu : H.used = nextU st := by rw [← hH]; rfl
 rw [hH] at hnu hc;have hw := (wrHead_ok { dk with L := [] } H G.du (by show dk.fuse ≠ 0; rw [G.df]; decide) G.least (headT_short _ hnu) (by omega)).2;obtain ⟨dk', hd'⟩ : ∃ dk', (wrHead dk.sync.1 H).1 = dk' := ⟨_, rfl⟩
 have hc1 := hc.1;have hc2 := hc.2;rw [hd'] at hc1 hc2;rw [hs, hw] at hd'
 have eS : dk'.S = dk.S.set (H.gen % 2).toNat (hdL H) := by
  rw [← hd']
  show (DkS.wrote { dk with L := [] } (H.gen % 2).toNat (hdL H)).S = _
  rw [wrote_S]
 have eu : dk'.up = true := by
  rw [← hd']
  show (DkS.wrote { dk with L := [] } (H.gen % 2).toNat (hdL H)).up = true
  rw [wrote_up]; exact G.du
 have ef : dk'.fuse = -1 := by
  rw [← hd']
  show (DkS.wrote { dk with L := [] } (H.gen % 2).toNat (hdL H)).fuse = -1
  rw [wrote_fuse]
  show (if 0 < dk.fuse then dk.fuse - 1 else dk.fuse) = -1
  rw [G.df]; rfl
 have hl8 := G.least;have Gu : ∀ x, hasB H.used x = true ↔ x ∈ P := fun x => by rw [Hu, next_has G hu80, hL.2 x]
 have RnE : ∀ p ∈ P, Rn dk' p = Rn dk p := fun p hp => Rn_eq G.du eu hc2 p fun h2 => by
  rw [eS, List.getElem?_set_ne (by omega)]
 refine ⟨dk', ⟨H, [], [], true⟩, P, hc1, ⟨eu, ef, by rw [hc2]; exact hfew, by rw [hc2]; exact hl8, rfl, fun x hx => (by cases hx), List.nodup_nil, fun x hx => ?_, fun x hx => (by cases hx)⟩, ⟨⟨⟨by show 0 ≤ H.gen; omega, by show H.gen ≤ 281474976710655; omega, by show 0 ≤ H.root; omega, by show H.root ≤ 281474976710655; omega, hnu⟩, by show 1 ≤ H.gen; omega, by show H.gen ≤ 1000; omega, by show H.root ≤ 65535; omega, ?_, .inr ⟨st.h, ?_, c.hd.ok, c.hd.rt, by show st.h.gen < H.gen; omega⟩, ?_⟩, hL.1, Gu, ?_⟩, rfl, rfl, Hr, Hg, hc2⟩
 ·rw [hc2]; exact hrng x ((Gu x).1 hx)
 ·show dk'.S[(H.gen % 2).toNat]? = _
  rw [eS, List.getElem?_set_self (by omega)]
 ·show dk'.S[((H.gen + 1) % 2).toNat]? = _
  rw [eS, List.getElem?_set_ne (by omega), show ((H.gen + 1) % 2).toNat = (st.h.gen % 2).toNat by rw [Hg]; congr 1; omega];exact c.hd.cur
 ·show countsB H (H.gen % 2) (dk'.S.length : Int) = true
  unfold countsB
  have hst : ((List.range 640).all fun i => !strayB H (dk'.S.length : Int) i) = true := by
   rw [List.all_eq_true];intro i _;unfold strayB
   cases hb : hasB H.used (i : Int) with
   | false => rfl
   | true =>
    have := hrng _ ((Gu _).1 hb);rw [hc2, decide_eq_false (by omega), decide_eq_false (by omega)]
    rfl
  rw [hst, decide_eq_true (show 1 ≤ H.gen by omega), decide_eq_true (show H.gen % 2 = H.gen % 2 from rfl)]
  rcases hr with h | h
  ·rw [decide_eq_true (show H.root = 0 by omega)]; rfl
  ·rw [Hr, (Gu root).2 h]; simp
 ·show (H.root = 0 ∧ E = [] ∧ P = []) ∨ _
  rw [Hr]
  rcases htr with h | ⟨h, F, h1, h2, h3⟩
  ·exact .inl h
  ·exact .inr ⟨h, F, IsT_congr h1 RnE, h2, h3⟩
theorem cm_new (n : Nat) (h8 : 8 ≤ n) (hn : n ≤ 640) : Cm (wrHead (DkS.fresh n) fmtH).1 (ShS.new fmtH) [] [] := by
 have hln : (DkS.fresh n).S.length = n := by show (List.replicate n zs).length = n; rw [List.length_replicate]
 have hw := (wrHead_ok (DkS.fresh n) fmtH rfl (by show (-1 : Int) ≠ 0; decide) (by omega) (headT_short fmtH fmtH_ok.u) (by decide)).2;obtain ⟨dk', hd'⟩ : ∃ dk', (wrHead (DkS.fresh n) fmtH).1 = dk' := ⟨_, rfl⟩
 rw [hd'] at hw ⊢
 have eS : dk'.S = (List.replicate n zs).set 1 (hdL fmtH) := by
  rw [hw]
  show (DkS.wrote (DkS.fresh n) (fmtH.gen % 2).toNat (hdL fmtH)).S = _
  rw [wrote_S]
  rfl
 have el : dk'.S.length = n := by rw [eS, List.length_set, List.length_replicate]
 refine ⟨⟨fmtH_ok, by decide, by decide, by decide, ?_, .inl ?_, ?_⟩, List.nodup_nil, fun x => ?_, .inl ⟨rfl, rfl, rfl⟩⟩
 ·show dk'.S[1]? = _
  rw [eS, List.getElem?_set_self (by rw [List.length_replicate]; omega)]
  rfl
 ·show dk'.S[0]? = _
  rw [eS, List.getElem?_set_ne (by decide), List.getElem?_replicate, if_pos (by omega)]
 ·show countsB fmtH 1 (dk'.S.length : Int) = true
  unfold countsB
  have hst : ((List.range 640).all fun i => !strayB fmtH (dk'.S.length : Int) i) = true := by
   rw [List.all_eq_true];intro i _;unfold strayB;rw [fmt_used]
   rfl
  rw [hst]
  rfl
 ·show hasB fmtH.used x = true ↔ _
  rw [fmt_used];simp
def hZ (U : ByteArray) (dk : DkS) (st : ShS) : Prop := st.h.used = U
def TrKF (Z : DkS → ShS → Prop) (gn : Int) (E0 : List Ent) (w : World) (d s n : Nat) (root : Int) (E : List Ent) (F : Nat → Prop) : Prop := ∃ dk st P0, SD w d s dk st F ∧ Good dk st ∧ TreeI dk st root E ∧ dk.S.length = n ∧ Cm dk st E0 P0 ∧ st.h.gen ≤ gn ∧ Z dk st
def TrK (Z : DkS → ShS → Prop) (gn : Int) (E0 : List Ent) (w0 : World) (R : List Nat) (w : World) (d s n : Nat) (root : Int) (E : List Ent) : Prop :=
 Below w0.heap.size w0 w ∧ ∃ F, TrKF Z gn E0 w d s n root E F ∧ (∀ k, F k → w0.heap.size ≤ k) ∧ ∀ k ∈ R, k < w.heap.size ∧ ¬ F k
section
variable {Z : DkS → ShS → Prop} {gn : Int} {E0 : List Ent} {w0 : World} {R : List Nat} {w : World} {d s n : Nat} {root : Int} {E : List Ent}
theorem TrKF.frm {w' : World} {F G : Nat → Prop} (h : TrKF Z gn E0 w d s n root E F) (hf : Frm G w w') (hd : ∀ k, F k → ¬ G k) : TrKF Z gn E0 w' d s n root E F := by
 obtain ⟨dk, st, P0, h1, h2⟩ := h;exact ⟨dk, st, P0, h1.frm hf hd, h2⟩
theorem TrK.size (h : TrK Z gn E0 w0 R w d s n root E) : Below w0.heap.size w0 w := h.1
theorem TrK.below {w' : World} (h : TrK Z gn E0 w0 R w d s n root E) (hb : Below w.heap.size w w') : TrK Z gn E0 w0 R w' d s n root E := by
 obtain ⟨h1, F, h2, h3, h4⟩ := h;exact ⟨h1.trans (hb.mono h1.size), F, h2.frm (G := fun _ => False) (Frm.of_below hb) (fun _ _ h => h), h3, fun k hk => ⟨Nat.lt_of_lt_of_le (h4 k hk).1 hb.size, (h4 k hk).2⟩⟩
theorem TrK.kept {w' : World} (h : TrK Z gn E0 w0 R w d s n root E) (hb : Below w.heap.size w w') : KeptL R w w' := by
 obtain ⟨h1, F, h2, h3, h4⟩ := h;exact fun k hk => hb.block k (h4 k hk).1
theorem TrK.turn {w' : World} (h : TrK Z gn E0 w0 R w d s n root E) {k : Nat} (hk : k ∈ R) (h0 : w0.heap.size ≤ k) (hf : Frm (fun x => x = k) w w') : TrK Z gn E0 w0 R w' d s n root E := by
 obtain ⟨h1, F, h2, h3, h4⟩ := h;exact ⟨h1.trans (hf.below (fun i hi => by subst hi; exact h0) h1.size), F, h2.frm hf (fun i hi e => (h4 k hk).2 (e ▸ hi)), h3, fun i hi => ⟨Nat.lt_of_lt_of_le (h4 i hi).1 hf.size, (h4 i hi).2⟩⟩
theorem TrK.sub {R' : List Nat} (h : TrK Z gn E0 w0 R w d s n root E) (hs : ∀ k ∈ R', k ∈ R) : TrK Z gn E0 w0 R' w d s n root E := by
 obtain ⟨h1, F, h2, h3, h4⟩ := h;exact ⟨h1, F, h2, h3, fun k hk => h4 k (hs k hk)⟩
theorem TrK.lt (h : TrK Z gn E0 w0 R w d s n root E) (k : Nat) (hk : k ∈ R) : k < w.heap.size := by
 obtain ⟨h1, F, h2, h3, h4⟩ := h;exact (h4 k hk).1
theorem scan_K (h : TrK Z gn E0 w0 R w d s n root E) (hE : E.length ≤ 600) (key most : Int) :
  Calls Tryz.prog 19 #[.pointer (some ⟨s, 0, none⟩), .int .i64 root, .int .u64 key, .int .i64 most] w fun e w' => ∃ v, e = .returned (.tuple #[v, .int .i64 0]) ∧ RowE w' v ((scanE key E).take most.toNat) ∧ TrK Z gn E0 w0 (v.ownBlock.toList ++ R) w' d s n root E ∧ KeptL R w w' ∧ ∀ k, v.ownBlock = some k → w.heap.size ≤ k := by
 obtain ⟨hb, F, ⟨dk, st, P0, h1, G, ht, hr⟩, hF, hR⟩ := h;refine (scan_is w d s dk st F h1 G root E ht hE key most).mono ?_;rintro e w' ⟨v, rfl, ho, hp, hf⟩;have hlo := ho.lt;have hlt := h1.lt;refine ⟨v, rfl, ⟨ho.1, ho.2.imp id fun ⟨g, cap, cur, hv, _, r⟩ => ⟨g, cap, cur, hv, Nat.zero_le _, r⟩⟩, ⟨hb.trans (hf.below hF hb.size), F, ⟨dk, st, P0, hp, G, ht, hr⟩, hF, fun k hk => ?_⟩, fun k hk => hf.block k (hR k hk).1 (hR k hk).2, fun k hk => (hlo k hk).1⟩
 rcases List.mem_append.1 hk with hk | hk
 ·have hk' : v.ownBlock = some k := by simpa using hk
  exact ⟨(hlo k hk').2, fun hx => by have := hlt k hx; have := (hlo k hk').1; omega⟩
 ·exact ⟨Nat.lt_of_lt_of_le (hR k hk).1 hf.size, (hR k hk).2⟩
end
theorem sealB_iff7 (k : Int) (t : ByteArray) : sealB k t = true ↔ 1 ≤ k ∧ k ≤ 15 ∧ t.size ≤ 240 := by
 unfold sealB;rw [Bool.and_eq_true, kindB_iff, decide_eq_true_eq, and_assoc]
theorem refSum7_any (s : ByteArray) (w : World) (hs : s.size ≤ 9223372036854775807) (N : Nat) (HN : Hid (adS s.data.toList = N)) :
  Calls Tryz.prog 126 #[.string s] w fun e w' => e = .returned (.int .u32 (N : Int)) ∧ w = w' := by
 go_enter Tryz.func126, Tryz.ntmps126;go_wp2_with fail
 go_loop [3, 4, 5] (fun a b i => ∃ k A B : Nat, k ≤ s.size ∧ a = .int .i64 (A : Int) ∧ b = .int .i64 (B : Int) ∧ i = .int .i64 (k : Int) ∧ A < 65521 ∧ B < 65521 ∧ Hid (adA (s.data.toList.take k) = A) ∧ Hid (adB (s.data.toList.take k) = B)) (fun _ _ i => s.size + 1 - (intOf i).toNat)
 case atStart => exact ⟨0, 1, 0, Nat.zero_le _, rfl, rfl, rfl, by decide, by decide, Hd (by simp; rfl), Hd (by simp; rfl)⟩
 case round =>
  obtain ⟨k, A, B, hk, rfl, rfl, rfl, hA, hB, HA, HB⟩ := hrel
  by_cases hlt : k < s.size
  ·obtain ⟨x, hx⟩ : ∃ x, s[k].toNat = x := ⟨_, rfl⟩
   have hx2 : x < 256 := by rw [← hx]; exact UInt8.toNat_lt _
   have F := Hd (adF_hid s k hlt A B x HA.out HB.out hx);have FX := Hd hx;clear HA HB;have hli : (k : Int) < (s.size : Int) := by omega
   go_wp2_with fail
   go_round
   case rel => exact ⟨k + 1, _, _, by omega, rfl, rfl, by go_num, Nat.mod_lt _ (by decide), Nat.mod_lt _ (by decide), Hd F.out.1, Hd F.out.2⟩
   case measure => simp [intOf]; omega
  ·obtain rfl : k = s.size := by omega
   have HJ := Hd (join16 A B hA hB)
   have HV : Hid (B * 65536 + A = N) := Hd (by
    have e : s.data.toList.take s.size = s.data.toList := List.take_of_length_le (by simp);rw [← HN.out, ← HA.out, ← HB.out, e]; rfl)
   clear HA HB HN;go_wp2_with fail;go_ret;exact ⟨by rw [HJ.out, HV.out]; rfl, rfl⟩
theorem four_rowcells (n : Nat) (hn : n < 4294967296) (w : World) : (convert 62 9 (.slice (some ⟨w.heap.size, 0, none⟩) 4 4)).run Tryz.prog (w.alloc (.cells (fourArr n 4) 5)) = .ok (.string (Str (four n))) (w.alloc (.cells (fourArr n 4) 5)) := by
 have hconv := run_convert_bytes_back (P := Tryz.prog) (w.alloc (.cells (fourArr n 4) 5)) 62 9 5 ⟨w.heap.size, 0, none⟩ 4 (four n) Tryz.underlying62 Tryz.underlying5 Tryz.underlying9 (fun j hj => by
  have := four_cells n j hn hj;rw [show (⟨w.heap.size, 0, none⟩ : Addr).add j = ⟨w.heap.size, j, none⟩ by unfold Addr.add; split <;> simp_all];rw [← this]; simp)
 rwa [four_length] at hconv
theorem refFour_is (n : Nat) (w : World) (hn : n < 4294967296) (B : ByteArray) (HB : Hid (Str (four n) = B)) :
  Calls Tryz.prog 125 #[.int .u32 (n : Int)] w fun e w' => e = .returned (.string B) ∧ Below w.heap.size w w' := by
 have hcv := four_rowcells n hn w;unfold fourArr at hcv;rw [HB.out] at hcv;go_enter Tryz.func125, Tryz.ntmps125;go_wp2_with fail;go_ret;exact ⟨rfl, Br.alloc (Nat.le_refl _) _⟩
theorem two_conv (a b : UInt8) (w : World) : (convert 62 9 (.slice (some ⟨w.heap.size, 0, none⟩) 2 2)).run Tryz.prog (w.alloc (.cells #[vb a, vb b] 5)) = .ok (.string (Str [a, b])) (w.alloc (.cells #[vb a, vb b] 5)) := by
 have hrow : Byt 5 (w.alloc (.cells #[vb a, vb b] 5)) w.heap.size [a, b] := han w _;exact hrow.conv 2 2 (Nat.le_refl _)
theorem seal_parts (k n : Nat) (t : List UInt8) (h : t.length = n) (hn : n ≤ 240) (U : ByteArray) (hU : U = Str [UInt8.ofNat k, UInt8.ofNat n] ++ Str t) : U ++ Str (List.replicate (250 - n) 0) = Str (pgBody k t) := by
 subst hU; subst h;apply eq_of_data;rw [append_list, append_list, Str_list, Str_list, Str_list, Str_list];unfold pgBody;simp
theorem refSeal_yes (k : Nat) (t : ByteArray) (w : World) (h1 : 1 ≤ k) (h2 : k ≤ 15) (h3 : t.size ≤ 240) (S : ByteArray) (HS : Hid (Str (pgL k t.data.toList) = S)) :
  Calls Tryz.prog 102 #[.int .i64 (k : Int), .string t] w fun e w' => e = .returned (.tuple #[.string S, .bool true]) ∧ Below w.heap.size w w' := by
 have hcv := two_conv (UInt8.ofNat k) (UInt8.ofNat t.size) w;have e1 : vb (UInt8.ofNat k) = .int .u8 (k : Int) := by unfold vb; rw [UInt8.toNat_ofNat', Nat.mod_eq_of_lt (by omega)]
 have e2 : vb (UInt8.ofNat t.size) = .int .u8 (t.size : Int) := by unfold vb; rw [UInt8.toNat_ofNat', Nat.mod_eq_of_lt (by omega)]
 rw [e1, e2] at hcv;obtain ⟨H, hH⟩ : ∃ H, Str [UInt8.ofNat k, UInt8.ofNat t.size] = H := ⟨_, rfl⟩
 have hHz : H.size = 2 := by rw [← hH, Str_size]; rfl
 rw [hH] at hcv;obtain ⟨U, hU⟩ : ∃ U, H ++ t = U := ⟨_, rfl⟩
 have hUz : U.size = 2 + t.size := by rw [← hU, ByteArray.size_append, hHz]
 have HP : Hid (U ++ Str (List.replicate (250 - t.size) 0) = Str (pgBody k t.data.toList)) := Hd (seal_parts k t.size t.data.toList (by simp) h3 U (by rw [← hU, ← hH, Str_of]));obtain ⟨w2, hmk, hrow, hbel⟩ := made_bytes (w.alloc (.cells #[.int .u8 (k : Int), .int .u8 (t.size : Int)] 5)) (250 - t.size) (250 - t.size) (Nat.le_refl _) (by omega);have hcv2 := hrow.conv (250 - t.size) (250 - t.size) (by simp);rw [List.take_of_length_le (by simp)] at hcv2;obtain ⟨m, hm⟩ : ∃ m, 250 - t.size = m := ⟨_, rfl⟩
 obtain ⟨Z, hZ⟩ : ∃ Z, Str (List.replicate m (0 : UInt8)) = Z := ⟨_, rfl⟩
 have hZz : Z.size = m := by rw [← hZ, Str_size]; simp
 rw [hm] at hmk hcv2 HP;rw [hZ] at hcv2 HP;obtain ⟨X, hX⟩ : ∃ X, Str (pgBody k t.data.toList) = X := ⟨_, rfl⟩
 have hXz : X.size = 252 := by rw [← hX, Str_size]; exact pgBody_length k _ (by simpa using h3)
 rw [hX] at HP;have hUZ := HP.out;have hBW := Hd (chain ((Below.refl w.heap.size w).alloc (Nat.le_refl _) (.cells #[.int .u8 (k : Int), .int .u8 (t.size : Int)] 5)) hbel);obtain ⟨N, HN⟩ : ∃ N, Hid (adS X.data.toList = N) := ⟨_, Hd rfl⟩
 have hN := adS_lt X.data.toList;rw [HN.out] at hN;obtain ⟨Y, HY⟩ : ∃ Y, Hid (Str (four N) = Y) := ⟨_, Hd rfl⟩
 have hYz : Y.size = 4 := by rw [← HY.out, Str_size, four_length]
 have HXY : Hid (X ++ Y = S) := Hd (by
  rw [← HS.out, ← HY.out, ← HN.out, ← hX, Str_append, Str_list, Str_list]; rfl)
 have hXY := HXY.out;have hmi : 252 - (2 + (t.size : Int)) = (m : Int) := by omega
 have hs1 : (w.alloc (.cells #[.int .u8 (k : Int), .int .u8 (t.size : Int)] 5)).heap.size = w.heap.size + 1 := by simp
 rw [hs1] at hmk hcv2;clear hrow hbel e1 e2 hH HP hm hZ hX HS hs1;go_enter Tryz.func102, Tryz.ntmps102;go_wp2_with fail;refine (refSum7_any X _ (by omega) N HN).mono ?_;rintro e w3 ⟨rfl, rfl⟩;go_wp2_with fail;refine (refFour_is N _ hN Y HY).mono ?_;rintro e w4 ⟨rfl, b4⟩;have BB := Hd (chain hBW.out b4);clear b4;go_wp2_with fail;go_ret2;exact ⟨by rw [← hXY]; rfl, BB.out⟩
theorem refSeal_no (k : Int) (t : ByteArray) (w : World) (h : sealB k t = false) :
  Calls Tryz.prog 102 #[.int .i64 k, .string t] w fun e w' => e = .returned (.tuple #[.string ⟨#[]⟩, .bool false]) ∧ w = w' := by
 have hc : k < 1 ∨ (1 ≤ k ∧ 15 < k) ∨ (1 ≤ k ∧ k ≤ 15 ∧ 240 < (t.size : Int)) := by
  have : ¬ (1 ≤ k ∧ k ≤ 15 ∧ t.size ≤ 240) := fun hh => by
   rw [(sealB_iff7 _ _).2 hh] at h; cases h
  omega
 clear h
 rcases hc with h0 | ⟨h0, h1⟩ | ⟨h0, h1, h2⟩
 all_goals
  go_enter Tryz.func102, Tryz.ntmps102;go_wp2_with fail;go_ret2;exact ⟨rfl, rfl⟩
theorem refSeal_any (k : Int) (t : ByteArray) (w : World) :
  Calls Tryz.prog 102 #[.int .i64 k, .string t] w fun e w' => e = .returned (.tuple #[.string (sealS k t), .bool (sealB k t)]) ∧ Below w.heap.size w w' := by
 cases h : sealB k t
 ·refine (refSeal_no k t w h).mono ?_
  rintro e w' ⟨rfl, rfl⟩;exact ⟨by unfold sealS; rw [h]; rfl, Br⟩
 ·obtain ⟨h1, h2, h3⟩ := (sealB_iff7 k t).1 h
  obtain ⟨n, rfl⟩ := Int.eq_ofNat_of_zero_le (show 0 ≤ k by omega);refine (refSeal_yes n t w (by omega) (by omega) h3 _ (Hd rfl)).mono ?_;rintro e w' ⟨rfl, hb⟩;exact ⟨by unfold sealS; rw [h]; rfl, hb⟩
end Go.Proofs.YtmomlhiokggfbaaGreatDoor
