/-
 NodeSp, Held, NodeCu, Num, PutMath, TakePut, NodeE, Build, Shelf, NodeEn, NodeDn.
-/
import Derived.Test.YtmomlhiokggfbaaGreatDoorL02
import Derived.Test.YtmomlhiokggfbaaGreatDoorL01
import Derived.Deep.RegionHeld
import Derived.Deep.DeepCutAuto
import Derived.BigQuiet
import Derived.Deep.QuietTactic
import Derived.Shelf.Strings.Builder1
import Derived.Test.YtmomlhiokggfbaaGreatDoorProg
namespace Go.Proofs.YtmomlhiokggfbaaGreatDoor
open Go.RowKit
set_option maxRecDepth 20000
set_option maxHeartbeats 12800000
set_option linter.unusedVariables false
set_option linter.unusedSimpArgs false
def aheadN (n : Nod) (p : Nat) : Nod := if n.leaf then { leaf := true, K := n.K.take p, V := n.V.take p, C := [] } else { leaf := false, K := n.K.take p, V := [], C := n.C.take (p + 1) }
def behindN (n : Nod) (p : Nat) : Nod := if n.leaf then { leaf := true, K := n.K.drop p, V := n.V.drop p, C := [] } else { leaf := false, K := n.K.drop (p + 1), V := [], C := n.C.drop (p + 1) }
def leastN (lf : Bool) : Nat := if lf then 2 else 3
def shareN (n : Nod) (i : Nat) : Nat := if n.leaf then 9 + (n.V.getD i ByteArray.empty).size else 10
theorem ahead_ok (n : Nod) (p : Nat) (ho : NodOk n) : NodOk (aheadN n p) := by
 unfold aheadN
 split
 ·exact ⟨Nat.le_trans (by simp; omega) ho.k1, Nat.le_trans (by simp; omega) ho.v1, Nat.zero_le _, fun x hx => ho.kb x (List.mem_of_mem_take hx), fun x hx => ho.vb x (List.mem_of_mem_take hx), fun x hx => (by cases hx)⟩
 ·exact ⟨Nat.le_trans (by simp; omega) ho.k1, Nat.zero_le _, Nat.le_trans (by simp; omega) ho.c1, fun x hx => ho.kb x (List.mem_of_mem_take hx), fun x hx => (by cases hx), fun x hx => ho.cb x (List.mem_of_mem_take hx)⟩
theorem behind_ok (n : Nod) (p : Nat) (ho : NodOk n) : NodOk (behindN n p) := by
 unfold behindN
 split
 ·exact ⟨Nat.le_trans (by simp) ho.k1, Nat.le_trans (by simp) ho.v1, Nat.zero_le _, fun x hx => ho.kb x (List.mem_of_mem_drop hx), fun x hx => ho.vb x (List.mem_of_mem_drop hx), fun x hx => (by cases hx)⟩
 ·exact ⟨Nat.le_trans (by simp) ho.k1, Nat.zero_le _, Nat.le_trans (by simp) ho.c1, fun x hx => ho.kb x (List.mem_of_mem_drop hx), fun x hx => (by cases hx), fun x hx => ho.cb x (List.mem_of_mem_drop hx)⟩
theorem ahead_is (n : Nod) (ak av ac : Option Addr) (ck cv cc : Nat) (w : World) (h : NodR w n ak av ac ck cv cc) (p : Nat) (hw : wholeB n = true) (hp : p ≤ n.K.length) :
  Calls Tryz.prog 131 #[nodV n ak av ac ck cv cc, .int .i64 (p : Int)] w fun e w' => NodBack w.heap.size (aheadN n p) e w' ∧ Below w.heap.size w w' := by
 have hok := ahead_ok n p h.ok;have hk1 := h.ok.k1;have hk2 := h.k2;obtain ⟨a1, S1, R1⟩ := rd_upto h.k p ck (by simp; omega) (by simpa using hk2);have e1 : ((n.K.map ukey).take p).length = p := by simp; omega
 have CK := fun wx a hb ha => cat1 glues_U ((n.K.map ukey).take p) (fun u hu => one_U _ u (List.mem_of_mem_take hu)) p e1.symm (by omega) (c1 := ck) R1 wx a hb ha
 cases hl : n.leaf with
 | true =>
  have hwl := (wholeB_leaf hl).1 hw;have hv2 := h.v2;rw [hwl.1] at hv2;obtain ⟨a2, S2, R2⟩ := rd_upto h.v p cv (by simp [hwl.1]; omega) (by simpa using h.v2);have e2 : ((n.V.map Value.string).take p).length = p := by simp [hwl.1]; omega
  have CV := fun wx a hb ha => cat1 glues_S ((n.V.map Value.string).take p) (fun u hu => one_S _ u (List.mem_of_mem_take hu)) p e2.symm (by omega) (c1 := cv) R2 wx a hb ha
  unfold nodV;rw [hl, hwl.1];refine (ahead_leaf ak av ac a1 a2 ck cv cc n.K.length n.C.length p _ _ w (Hd S1) (Hd S2) (Hd CK) (Hd CV) hp hk2 hv2 hk1).mono ?_;rintro e w' ⟨⟨x, rfl, xa, xb, xc, xd, rfl, q1, q2, q3, q4, q5, q6, q7, q8⟩, hb⟩;have hN : aheadN n p = { leaf := true, K := n.K.take p, V := n.V.take p, C := [] } := by unfold aheadN; rw [hl]; rfl
  have eK : (aheadN n p).K.map ukey = (n.K.map ukey).take p := by rw [hN]; simp [List.map_take]
  have eV : (aheadN n p).V.map Value.string = (n.V.map Value.string).take p := by rw [hN]; simp [List.map_take]
  rw [← eK] at q1 q3;rw [← eV] at q2 q5;refine ⟨⟨xa, xb, none, xc, xd, 0, ?_, ⟨q1, q2, by rw [hN]; exact .inl rfl, by simpa using q3, q4, by simpa using q5, q6, by rw [hN]; exact Nat.le_refl _, Nat.zero_le _, hok⟩, q7, q8, fun x hx => by cases hx⟩, hb⟩;unfold nodV;rw [← eK, ← eV, hN];simp
 | false =>
  have hwl := (wholeB_branch hl).1 hw;have hc2 := h.c2;rw [hwl.1] at hc2;obtain ⟨a2, S2, R2⟩ := rd_upto h.c (p + 1) cc (by simp [hwl.1]; omega) (by simpa using h.c2);have e2 : ((n.C.map ikid).take (p + 1)).length = p + 1 := by simp [hwl.1]; omega
  have CC := fun wx a hb ha => cat1 glues_I ((n.C.map ikid).take (p + 1)) (fun u hu => one_I _ u (List.mem_of_mem_take hu)) (p + 1) e2.symm (by omega) (c1 := cc) R2 wx a hb ha
  unfold nodV;rw [hl, hwl.1];refine (ahead_branch ak av ac a1 a2 ck cv cc n.K.length n.V.length p _ _ w (Hd S1) (Hd S2) (Hd CK) (Hd CC) hp hk2 hc2 hk1).mono ?_;rintro e w' ⟨⟨x, rfl, xa, xb, xc, xd, rfl, q1, q2, q3, q4, q5, q6, q7, q8⟩, hb⟩;have hN : aheadN n p = { leaf := false, K := n.K.take p, V := [], C := n.C.take (p + 1) } := by unfold aheadN; rw [hl]; rfl
  have eK : (aheadN n p).K.map ukey = (n.K.map ukey).take p := by rw [hN]; simp [List.map_take]
  have eC : (aheadN n p).C.map ikid = (n.C.map ikid).take (p + 1) := by rw [hN]; simp [List.map_take]
  rw [← eK] at q1 q3;rw [← eC] at q2 q5;refine ⟨⟨xa, none, xb, xc, 0, xd, ?_, ⟨q1, by rw [hN]; exact .inl rfl, q2, by simpa using q3, q4, by rw [hN]; exact Nat.le_refl _, Nat.zero_le _, by simpa using q5, q6, hok⟩, q7, (fun x hx => by cases hx), q8⟩, hb⟩;unfold nodV;rw [← eK, ← eC, hN];simp
theorem behind_is (n : Nod) (ak av ac : Option Addr) (ck cv cc : Nat) (w : World) (h : NodR w n ak av ac ck cv cc) (p : Nat) (hw : wholeB n = true) (hp : p + 1 ≤ n.K.length) :
  Calls Tryz.prog 132 #[nodV n ak av ac ck cv cc, .int .i64 (p : Int)] w fun e w' => NodBack w.heap.size (behindN n p) e w' ∧ Below w.heap.size w w' := by
 have hok := behind_ok n p h.ok;have hk1 := h.ok.k1;have hk2 := h.k2
 cases hl : n.leaf with
 | true =>
  have hwl := (wholeB_leaf hl).1 hw;have hv2 := h.v2;rw [hwl.1] at hv2;obtain ⟨a1, S1, R1⟩ := rd_from h.k p n.K.length ck (by simp) (by simp; omega) (by simpa using hk2);have e1 : ((n.K.map ukey).drop p).length = n.K.length - p := by simp
  have CK := fun wx a hb ha => cat1 glues_U ((n.K.map ukey).drop p) (fun u hu => one_U _ u (List.mem_of_mem_drop hu)) (n.K.length - p) e1.symm (by omega) (c1 := ck - p) R1 wx a hb ha
  obtain ⟨a2, S2, R2⟩ := rd_from h.v p n.K.length cv (by simp [hwl.1]) (by simp [hwl.1]; omega) (by simpa using h.v2);have e2 : ((n.V.map Value.string).drop p).length = n.K.length - p := by simp [hwl.1]
  have CV := fun wx a hb ha => cat1 glues_S ((n.V.map Value.string).drop p) (fun u hu => one_S _ u (List.mem_of_mem_drop hu)) (n.K.length - p) e2.symm (by omega) (c1 := cv - p) R2 wx a hb ha
  unfold nodV;rw [hl, hwl.1];refine (behind_leaf ak av ac a1 a2 ck cv cc n.K.length n.C.length p _ _ w (Hd S1) (Hd S2) (Hd CK) (Hd CV) (by omega) hk2 hv2 hk1).mono ?_;rintro e w' ⟨⟨x, rfl, xa, xb, xc, xd, rfl, q1, q2, q3, q4, q5, q6, q7, q8⟩, hb⟩;have hN : behindN n p = { leaf := true, K := n.K.drop p, V := n.V.drop p, C := [] } := by unfold behindN; rw [hl]; rfl
  have eK : (behindN n p).K.map ukey = (n.K.map ukey).drop p := by rw [hN]; simp [List.map_drop]
  have eV : (behindN n p).V.map Value.string = (n.V.map Value.string).drop p := by rw [hN]; simp [List.map_drop]
  rw [← eK] at q1 q3;rw [← eV] at q2 q5;refine ⟨⟨xa, xb, none, xc, xd, 0, ?_, ⟨q1, q2, by rw [hN]; exact .inl rfl, by simpa using q3, q4, by simpa using q5, q6, by rw [hN]; exact Nat.le_refl _, Nat.zero_le _, hok⟩, q7, q8, fun x hx => by cases hx⟩, hb⟩;unfold nodV;rw [← eK, ← eV, hN];simp
 | false =>
  have hwl := (wholeB_branch hl).1 hw;have hc2 := h.c2;rw [hwl.1] at hc2;obtain ⟨a1, S1, R1⟩ := rd_from h.k (p + 1) n.K.length ck (by simp) (by simpa using hp) (by simpa using hk2);have e1 : ((n.K.map ukey).drop (p + 1)).length = n.K.length - (p + 1) := by simp
  have CK := fun wx a hb ha => cat1 glues_U ((n.K.map ukey).drop (p + 1)) (fun u hu => one_U _ u (List.mem_of_mem_drop hu)) (n.K.length - (p + 1)) e1.symm (by omega) (c1 := ck - (p + 1)) R1 wx a hb ha
  obtain ⟨a2, S2, R2⟩ := rd_from h.c (p + 1) (n.K.length + 1) cc (by simp [hwl.1]) (by simp [hwl.1]; omega) (by simpa using h.c2);rw [show n.K.length + 1 - (p + 1) = n.K.length - p from by omega] at S2;have e2 : ((n.C.map ikid).drop (p + 1)).length = n.K.length - p := by simp [hwl.1]
  have CC := fun wx a hb ha => cat1 glues_I ((n.C.map ikid).drop (p + 1)) (fun u hu => one_I _ u (List.mem_of_mem_drop hu)) (n.K.length - p) e2.symm (by omega) (c1 := cc - (p + 1)) R2 wx a hb ha
  unfold nodV;rw [hl, hwl.1];refine (behind_branch ak av ac a1 a2 ck cv cc n.K.length n.V.length p _ _ w (Hd S1) (Hd S2) (Hd CK) (Hd CC) hp hk2 hc2 hk1).mono ?_;rintro e w' ⟨⟨x, rfl, xa, xb, xc, xd, rfl, q1, q2, q3, q4, q5, q6, q7, q8⟩, hb⟩;have hN : behindN n p = { leaf := false, K := n.K.drop (p + 1), V := [], C := n.C.drop (p + 1) } := by unfold behindN; rw [hl]; rfl
  have eK : (behindN n p).K.map ukey = (n.K.map ukey).drop (p + 1) := by rw [hN]; simp [List.map_drop]
  have eC : (behindN n p).C.map ikid = (n.C.map ikid).drop (p + 1) := by rw [hN]; simp [List.map_drop]
  rw [← eK] at q1 q3;rw [← eC] at q2 q5;refine ⟨⟨xa, none, xb, xc, 0, xd, ?_, ⟨q1, by rw [hN]; exact .inl rfl, q2, by simpa using q3, q4, by rw [hN]; exact Nat.le_refl _, Nat.zero_le _, by simpa using q5, q6, hok⟩, q7, (fun x hx => by cases hx), q8⟩, hb⟩;unfold nodV;rw [← eK, ← eC, hN];simp
theorem least_is (n : Nod) (ak av ac : Option Addr) (ck cv cc : Nat) (w : World) :
  Calls Tryz.prog 129 #[nodV n ak av ac ck cv cc] w fun e w' => e = .returned (.int .i64 (leastN n.leaf : Int)) ∧ Below w.heap.size w w' := by
 unfold nodV;generalize n.leaf = lf;generalize n.K.length = lk;generalize n.V.length = lv;generalize n.C.length = lc
 cases lf
 all_goals
  go_enter Tryz.func129, Tryz.ntmps129;go_wp2_with fail;go_ret;exact ⟨rfl, Br.alloc (Nat.le_refl _) _⟩
theorem share_is (n : Nod) (ak av ac : Option Addr) (ck cv cc : Nat) (w : World) (h : NodR w n ak av ac ck cv cc) (i : Nat) (hw : wholeB n = true) (hi : i < n.K.length) (s : Nat) (hs : shareN n i = s) :
  Calls Tryz.prog 152 #[nodV n ak av ac ck cv cc, .int .i64 (i : Int)] w fun e w' => e = .returned (.int .i64 (s : Int)) ∧ Below w.heap.size w w' := by
 obtain ⟨lf, K, V, C⟩ := n;subst hs
 cases lf
 ·clear h hw hi
  unfold nodV shareN
  dsimp only
  generalize K.length = lk;generalize V.length = lv;generalize C.length = lc;go_enter Tryz.func152, Tryz.ntmps152;go_wp2_with fail;go_ret;exact ⟨rfl, Br.alloc (Nat.le_refl _) _⟩
 ·have hvk : V.length = K.length := ((wholeB_leaf rfl).1 hw).1
  have hiv : i < V.length := by rw [hvk]; exact hi
  obtain ⟨b, off, he, hb, hcell⟩ := h.v.at i (by simpa using hiv);subst he;have hvb := h.ok.vb V[i] (List.getElem_mem hiv);have hgd : V.getD i ByteArray.empty = V[i] := by rw [List.getD_eq_getElem?_getD, List.getElem?_eq_getElem hiv]; rfl
  unfold nodV shareN
  dsimp only at hcell ⊢
  rw [hgd];obtain ⟨x, hx⟩ : ∃ x, V[i] = x := ⟨_, rfl⟩
  have hc : (w.alloc (.cells #[.bool true, .slice ak K.length ck, .slice (some ⟨b, off, none⟩) V.length cv, .slice ac C.length cc] 97)).cell? ⟨b, off + i, none⟩ = some (.string x) := by
   rw [World.cell?_alloc_lt _ _ _ hb, hcell, ← hx]; simp
  rw [hx] at hvb ⊢;have hiI : (i : Int) < (V.length : Int) := by omega
  have hw9 : IntKind.i64.wrap (9 + (x.size : Int)) = 9 + (x.size : Int) := IntWalk.i64_in _ (by omega);clear hx hcell hgd h hw hi hiv hvk hvb;generalize K.length = lk at *;generalize V.length = lv at *;generalize C.length = lc at *;go_enter Tryz.func152, Tryz.ntmps152;go_wp2_with fail;go_ret;exact ⟨ret_int (by simp), Br.alloc (Nat.le_refl _) _⟩
section
variable {P : Program} {ops : Array Oper} {Q : Exit → Act → World → Prop} {md : Region.Mode} {S : World → Prop}
theorem held_take {i : Nat} (d : Tmp) {oi : Oper} (v : Value) {n : Nat} {b : Array Bool} {a : Act} {w : World} (hi : ops[i]? = some oi) (hd : oi.dst = some d) (hs : Region.noSelect ops = true) (hf : Region.free md ops b i = true) (hr : (Region.ready md ops b).contains i = true)
    (hQ : ∀ c a w, Q (.panic c) (a.put oi.dst v) w → Q (.panic c) a w) (hS : S w) (hw : Region.wanted oi (yielded ops a.tmps) = true) (hy : ∀ w, S w → (execOp a.eval oi).run P w = .ok (.value v) w)
    (h : wpAnyH P md ops Q S n (b.setIfInBounds i true) { tmps := a.tmps.setIfInBounds d v, defers := a.defers } w) : wpAnyH P md ops Q S (n + 1) b a w :=
  wpAnyH_take hi hs hf hr hQ (.inl ⟨hw, hy⟩) hS (by rw [hd]; exact h)
theorem held_step {i : Nat} {oi : Oper} {n : Nat} {b : Array Bool} {a : Act} {w : World} (hi : ops[i]? = some oi) (hr : Region.ready md ops b = [i])
    (h : ∀ K : Act → World → Prop, (∀ a2 w2, S w2 → wpAnyH P md ops Q S n (b.setIfInBounds i true) a2 w2 → K a2 w2) → if Region.wanted oi (yielded ops a.tmps) = true then Oper.wp P oi a w K Q else K (a.put oi.dst undef) w) : wpAnyH P md ops Q S (n + 1) b a w :=
  wpAnyH_ready hr (by simp) (AllReadyH.cons hi (fun K hK => h K fun a2 w2 h1 h2 => hK.out a2 w2 h1 fun _ => h2) AllReadyH.nil)
theorem held_fork {i j : Nat} {oi oj : Oper} {n : Nat} {b : Array Bool} {a : Act} {w : World} (hi : ops[i]? = some oi) (hj : ops[j]? = some oj) (hr : Region.ready md ops b = [i, j])
    (h : ∀ K : Act → World → Prop, (∀ a2 w2, S w2 → wpAnyH P md ops Q S n (b.setIfInBounds i true) a2 w2 → K a2 w2) → if Region.wanted oi (yielded ops a.tmps) = true then Oper.wp P oi a w K Q else K (a.put oi.dst undef) w)
    (h2 : ∀ K : Act → World → Prop, (∀ a2 w2, S w2 → wpAnyH P md ops Q S n (b.setIfInBounds j true) a2 w2 → K a2 w2) → if Region.wanted oj (yielded ops a.tmps) = true then Oper.wp P oj a w K Q else K (a.put oj.dst undef) w) : wpAnyH P md ops Q S (n + 1) b a w :=
  wpAnyH_ready hr (by simp) (AllReadyH.cons hi (fun K hK => h K fun a2 w2 h1 h2 => hK.out a2 w2 h1 fun _ => h2) (AllReadyH.cons hj (fun K hK => h2 K fun a2 w2 h1 h2 => hK.out a2 w2 h1 fun _ => h2) AllReadyH.nil))
end
section
variable {P : Program} {ops : Array Oper} {Q : Exit → Act → World → Prop} {md : Region.Mode} {S : World → Prop}
theorem ht {i : Nat} (d : Tmp) {oi : Oper} (v : Value) {n : Nat} {b : Array Bool} {a : Act} {w : World} (hi : ops[i]? = some oi) (hd : oi.dst = some d) (hc : (Region.noSelect ops && Region.free md ops b i && (Region.ready md ops b).contains i) = true)
    (hQ : ∀ c a w, Q (.panic c) (a.put oi.dst v) w → Q (.panic c) a w) (hS : S w) (hw : Region.wanted oi (yielded ops a.tmps) = true) (hy : ∀ w, S w → (execOp a.eval oi).run P w = .ok (.value v) w)
    (h : wpAnyH P md ops Q S n (b.setIfInBounds i true) { tmps := a.tmps.setIfInBounds d v, defers := a.defers } w) : wpAnyH P md ops Q S (n + 1) b a w := by
  simp only [Bool.and_eq_true] at hc
  exact held_take d v hi hd hc.1.1 hc.1.2 hc.2 hQ hS hw hy h
end
section
open Go.RowKit
variable {P : Program} {ops : Array Oper} {Q : Exit → Act → World → Prop} {md : Region.Mode} {S : World → Prop}
theorem Hu (i : Nat) (d : Tmp) {oi : Oper} {v : Value} {n : Nat} {b : Array Bool} {a : Act} {w : World} (hS : S w) (h : wpAnyH P md ops Q S n (b.setIfInBounds i true) { tmps := a.tmps.setIfInBounds d v, defers := a.defers } w) (hi : ops[i]? = some oi := by exact rfl) (hd : oi.dst = some d := by exact rfl) (hc : (Region.noSelect ops && Region.free md ops b i && (Region.ready md ops b).contains i) = true := by kernel_rfl)
    (hQ : ∀ c a w, Q (.panic c) (a.put oi.dst v) w → Q (.panic c) a w := by exact fun _ _ _ h => h) (hw : Region.wanted oi (yielded ops a.tmps) = true := by rfl) (hy : ∀ w, S w → (execOp a.eval oi).run P w = .ok (.value v) w := by intro w9 s9; clear s9; go_simp; try (with_reducible rfl)) : wpAnyH P md ops Q S (n + 1) b a w :=
  ht d v hi hd hc hQ hS hw hy h
theorem Hv (i : Nat) (d : Tmp) (v : Value) {oi : Oper} {n : Nat} {b : Array Bool} {a : Act} {w : World} (hS : S w) (hy : ∀ w, S w → (execOp a.eval oi).run P w = .ok (.value v) w) (h : wpAnyH P md ops Q S n (b.setIfInBounds i true) { tmps := a.tmps.setIfInBounds d v, defers := a.defers } w) (hi : ops[i]? = some oi := by exact rfl) (hd : oi.dst = some d := by exact rfl) (hc : (Region.noSelect ops && Region.free md ops b i && (Region.ready md ops b).contains i) = true := by kernel_rfl)
    (hQ : ∀ c a w, Q (.panic c) (a.put oi.dst v) w → Q (.panic c) a w := by exact fun _ _ _ h => h) (hw : Region.wanted oi (yielded ops a.tmps) = true := by rfl) : wpAnyH P md ops Q S (n + 1) b a w :=
  ht d v hi hd hc hQ hS hw hy h

theorem Hs (i : Nat) {oi : Oper} {n : Nat} {b : Array Bool} {a : Act} {w : World}
    (h : ∀ K : Act → World → Prop, Hid (∀ a2 w2, S w2 → wpAnyH P md ops Q S n (b.setIfInBounds i true) a2 w2 → K a2 w2) → if Region.wanted oi (yielded ops a.tmps) = true then Oper.wp P oi a w K Q else K (a.put oi.dst undef) w) (hi : ops[i]? = some oi := by exact rfl) (hr : Region.ready md ops b = [i] := by kernel_rfl) : wpAnyH P md ops Q S (n + 1) b a w :=
  held_step hi hr fun K hK => h K (Lib.hid hK)
theorem Hk (i j : Nat) {oi oj : Oper} {n : Nat} {b : Array Bool} {a : Act} {w : World}
    (h : ∀ K : Act → World → Prop, Hid (∀ a2 w2, S w2 → wpAnyH P md ops Q S n (b.setIfInBounds i true) a2 w2 → K a2 w2) → if Region.wanted oi (yielded ops a.tmps) = true then Oper.wp P oi a w K Q else K (a.put oi.dst undef) w)
    (h2 : ∀ K : Act → World → Prop, Hid (∀ a2 w2, S w2 → wpAnyH P md ops Q S n (b.setIfInBounds j true) a2 w2 → K a2 w2) → if Region.wanted oj (yielded ops a.tmps) = true then Oper.wp P oj a w K Q else K (a.put oj.dst undef) w) (hi : ops[i]? = some oi := by exact rfl) (hj : ops[j]? = some oj := by exact rfl) (hr : Region.ready md ops b = [i, j] := by kernel_rfl) : wpAnyH P md ops Q S (n + 1) b a w :=
  held_fork hi hj hr (fun K hK => h K (Lib.hid hK)) (fun K hK => h2 K (Lib.hid hK))
end
def cutFrom (n : Nod) (half : Nat) : Nat → Nat → Nat → Nat
 | 0, k, _ => k
 | f + 1, k, s => if half ≤ s then k else cutFrom n half f (k + 1) (s + shareN n k)
def mostN (n : Nod) : Nat := n.K.length - leastN n.leaf + 1
def cutN (n : Nod) : Nat := cutFrom n (sizeN n / 2) (mostN n - 1) 1 (sizeN (aheadN n 1))
theorem cutFrom_le (n : Nod) (half : Nat) : ∀ f k s, k ≤ cutFrom n half f k s ∧ cutFrom n half f k s ≤ k + f := by
 intro f
 induction f with
 | zero => intro k s; exact ⟨Nat.le_refl _, Nat.le_refl _⟩
 | succ f ih =>
  intro k s;unfold cutFrom
  split
  ·exact ⟨Nat.le_refl _, by omega⟩
  ·have := ih (k + 1) (s + shareN n k)
   exact ⟨by omega, by omega⟩
theorem cutN_le (n : Nod) : 1 ≤ cutN n ∧ cutN n ≤ mostN n := by
 have := cutFrom_le n (sizeN n / 2) (mostN n - 1) 1 (sizeN (aheadN n 1));have h : 1 ≤ mostN n := by unfold mostN; omega
 unfold cutN;omega
theorem ahead_whole (n : Nod) (p : Nat) (hw : wholeB n = true) (hp : p ≤ n.K.length) : wholeB (aheadN n p) = true := by
 unfold aheadN
 cases hl : n.leaf with
 | true =>
  have := (wholeB_leaf hl).1 hw;exact (wholeB_leaf rfl).2 ⟨by simp [this.1], rfl⟩
 | false =>
  have := (wholeB_branch hl).1 hw;exact (wholeB_branch rfl).2 ⟨by simp [this.1], rfl⟩
theorem share_le (n : Nod) (i : Nat) (ho : NodOk n) : shareN n i ≤ 9 + 140737488351232 := by
 unfold shareN
 split
 ·rw [List.getD_eq_getElem?_getD]
  cases h : n.V[i]? with
  | none => simp
  | some v => have := ho.vb v (List.mem_of_getElem? h); simp; omega
 ·omega
theorem size_ahead1 (n : Nod) (ho : NodOk n) : sizeN (aheadN n 1) ≤ 281474976710656 := by
 have h : ∀ (l : List ByteArray), (∀ v ∈ l, v.size ≤ 140737488351232) → bytesV (l.take 1) ≤ 140737488351232 := by
  intro l hl
  cases l with
  | nil => simp [bytesV]
  | cons a l => simpa [bytesV] using hl a (by simp)
 have hb := h n.V ho.vb;unfold aheadN sizeN
 cases n.leaf
 ·simp only [Bool.false_eq_true, if_false]
  have h1 : (n.K.take 1).length ≤ 1 := by simp; omega
  have h2 : (n.C.take (1 + 1)).length ≤ 2 := by simp; omega
  omega
 ·simp only [if_true]
  have h1 : (n.K.take 1).length ≤ 1 := by simp; omega
  omega
theorem sizeN_le (n : Nod) (ho : NodOk n) : sizeN n ≤ 140737488351232 * 1000 + 20000 := by
 have := bytesV_le n.V _ ho.vb;have h1 := ho.k1;have h2 := ho.v1;have h3 := ho.c1;have h4 : n.V.length * 140737488351232 ≤ 1000 * 140737488351232 := Nat.mul_le_mul_right _ h2;unfold sizeN
 split <;> omega
theorem cut_is (n : Nod) (ak av ac : Option Addr) (ck cv cc : Nat) (w : World) (h : NodR w n ak av ac ck cv cc) (hw : wholeB n = true) (hl : leastN n.leaf ≤ n.K.length) :
  Calls Tryz.prog 130 #[nodV n ak av ac ck cv cc] w fun e w' => e = .returned (.int .i64 (cutN n : Int)) ∧ Below w.heap.size w w' := by
 have hk1 := h.ok.k1;have hle2 : 2 ≤ leastN n.leaf := by unfold leastN; split <;> omega
 have SZ := Hd (fun w' (hb : Below w.heap.size w w') => size_is n ak av ac ck cv cc w' (h.below hb) _ (Hd rfl) hw);have LS := Hd (fun w' => least_is n ak av ac ck cv cc w');have AH := Hd (fun w' (hb : Below w.heap.size w w') => ahead_is n ak av ac ck cv cc w' (h.below hb) 1 hw (by omega));have SA := Hd (fun ak av ac ck cv cc w' (h : NodR w' (aheadN n 1) ak av ac ck cv cc) => size_is (aheadN n 1) ak av ac ck cv cc w' h _ (Hd rfl) (ahead_whole n 1 hw (by omega)))
 have SH := Hd (fun i (hi : i < n.K.length) w' (hb : Below w.heap.size w w') => share_is n ak av ac ck cv cc w' (h.below hb) i hw hi _ rfl);have SHL := Hd (fun i => share_le n i h.ok);have hz := sizeN_le n h.ok;have ha1 := size_ahead1 n h.ok;obtain ⟨half, hhf⟩ : ∃ half, sizeN n / 2 = half := ⟨_, rfl⟩
 obtain ⟨most, hms⟩ : ∃ most, mostN n = most := ⟨_, rfl⟩
 have hm1 : 1 ≤ most := by rw [← hms]; unfold mostN; omega
 have hm2 : (n.K.length : Int) - (leastN n.leaf : Int) + 1 = (most : Int) := by rw [← hms]; unfold mostN; omega
 have hm3 : most < n.K.length := by rw [← hms]; unfold mostN; omega
 have F0 : Hid (cutFrom n half (most - 1) 1 (sizeN (aheadN n 1)) = cutN n) := Hd (by unfold cutN; rw [hhf, hms]);have FS := Hd (fun f k s => show cutFrom n half (f + 1) k s = if half ≤ s then k else cutFrom n half f (k + 1) (s + shareN n k) from rfl);have FZ := Hd (fun k s => show cutFrom n half 0 k s = k from rfl);generalize cutN n = c at *;generalize hzn : sizeN n = z at *;generalize sizeN (aheadN n 1) = za at *;obtain ⟨d, hd⟩ : ∃ d : Nat, (n.K.length : Int) - (leastN n.leaf : Int) = (d : Int) := ⟨n.K.length - leastN n.leaf, by omega⟩
 have hw1 : IntKind.i64.wrap ((n.K.length : Int) - (leastN n.leaf : Int)) = (d : Int) := by rw [hd]; exact IntWalk.i64_in _ (by omega)
 have hw2 : IntKind.i64.wrap ((d : Int) + 1) = (most : Int) := by rw [← hd, hm2]; exact IntWalk.i64_in _ (by omega)
 have hw3 : (z : Int).tdiv 2 = (half : Int) := by rw [Int.tdiv_eq_ediv_of_nonneg (by omega)]; omega
 have hw4 : (z : Int) / 2 = (half : Int) := by omega
 have hw5 : IntKind.i64.wrap (half : Int) = (half : Int) := IntWalk.i64_in _ (by omega);have HB : Hid (Below w.heap.size w w) := Hd Br;clear hd hm2 hhf hms hz hle2 hl hw hzn h;obtain ⟨lf, K, V, C⟩ := n;unfold nodV at *
 dsimp only at *
 generalize K.length = lk at *;generalize V.length = lv at *;generalize C.length = lc at *;obtain ⟨W, hW⟩ : ∃ W, w.alloc (.cells #[.bool lf, .slice ak lk ck, .slice av lv cv, .slice ac lc cc] 97) = W := ⟨_, rfl⟩
 have bW : Below w.heap.size w W := by rw [← hW]; exact below_made _ _
 have XW : Hid (W.heap[w.heap.size]? = some (.cells #[.bool lf, .slice ak lk ck, .slice av lv cv, .slice ac lc cc] 97)) := Hd (by rw [← hW]; exact han _ _);have BW := Hd bW;have HW := Hd hW;clear bW hW;go_enter Tryz.func130, Tryz.ntmps130;go_wp2_with fail;rw [HW.out];clear HW;refine wp_region_held_drew (S := fun w' => Below W.heap.size W w') (by kernel_rfl) (Below.refl W.heap.size W).drew (fun hS => ?_);refine Hv 0 7 ?va0x1 hS ?ha0x1 ?_
 case ha0x1 =>
  intro w9 s9;have X9 := kept XW.out s9;have c0 := cl X9 0 rfl;have c1 := cl X9 1 rfl;have c2 := cl X9 2 rfl;have c3 := cl X9 3 rfl;clear s9;go_simp;try (with_reducible rfl)
 simp only [SL];refine Hu 3 10 hS ?_;simp only [SL];refine Hv 4 11 ?va4x3 hS ?ha4x3 ?_
 case ha4x3 =>
  intro w9 s9;have X9 := kept XW.out s9;have c0 := cl X9 0 rfl;have c1 := cl X9 1 rfl;have c2 := cl X9 2 rfl;have c3 := cl X9 3 rfl;clear s9;go_simp;try (with_reducible rfl)
 simp only [SL];refine Hu 5 12 hS ?_;simp only [SL];refine Hv 6 13 ?va6x5 hS ?ha6x5 ?_
 case ha6x5 =>
  intro w9 s9;have X9 := kept XW.out s9;have c0 := cl X9 0 rfl;have c1 := cl X9 1 rfl;have c2 := cl X9 2 rfl;have c3 := cl X9 3 rfl;clear s9;go_simp;try (with_reducible rfl)
 simp only [SL];refine Hs 1 (fun K HK => ?_);go_simp;go_wp2_with fail;refine (SZ.out _ (chain BW.out hS)).mono ?_;rintro e v1 ⟨rfl, b1⟩;refine HK.out _ _ ?_ ?_
 ·exact chain hS b1
 clear HK K;try simp only [Act.put, SL]
 have hS9 := chain hS b1;clear hS;have hS := hS9;clear hS9;clear b1;refine Hu 2 9 hS ?_;simp only [SL];refine Hs 7 (fun K HK => ?_);go_simp;go_wp2_with fail;refine (LS.out _).mono ?_;rintro e v2 ⟨rfl, b2⟩;refine HK.out _ _ ?_ ?_
 ·exact chain hS b2
 clear HK K;try simp only [Act.put, SL]
 have hS9 := chain hS b2;clear hS;have hS := hS9;clear hS9;clear b2;refine Hu 8 15 hS ?_;simp only [SL];refine Hu 9 16 hS ?_;simp only [SL];refine Hu 10 3 hS ?_;simp only [SL];refine Hu 11 4 hS ?_;simp only [SL];refine wpAnyH_done (by kernel_rfl) ?_ _;have H1 := Hd hS;clear hS;have X2 := Hd (kept XW.out H1.out);have B2 := Hd (chain BW.out H1.out);clear XW BW H1;have y0 := cl X2.out 0 rfl;have y1 := cl X2.out 1 rfl;have y2 := cl X2.out 2 rfl;have y3 := cl X2.out 3 rfl;go_wp2_with fail;refine (AH.out _ B2.out).mono ?_;rintro e v3 ⟨⟨xk, xv, xc, dk, dv, dc, rfl, hR, -, -, -⟩, b3⟩;have R3 := Hd hR
 have X3 := Hd (kept X2.out b3);have B3 := Hd (chain B2.out b3);clear hR b3 X2 B2 y0 y1 y2 y3 AH;unfold nodV;go_wp2_with fail;refine (SA.out _ _ _ _ _ _ _ R3.out).mono ?_;rintro e v4 ⟨rfl, b4⟩;have X4 := Hd (kept X3.out b4);have B4 := Hd (chain B3.out b4);clear b4 X3 B3 R3 SA;go_wp2_with fail
 go_loopw [5, 6] (fun s k wr => ∃ j y : Nat, 1 ≤ j ∧ j ≤ most ∧ k = .int .i64 (j : Int) ∧ s = .int .i64 (y : Int) ∧ y ≤ j * 281474976710656 ∧ cutFrom { leaf := lf, K := K, V := V, C := C } half (most - j) j y = c ∧ Below v4.heap.size v4 wr) (fun _ k _ => most + 1 - (intOf k).toNat)
 case atStart => exact ⟨1, za, Nat.le_refl _, hm1, rfl, rfl, by omega, F0.out, Br⟩
 case round =>
  obtain ⟨j, y, hj1, hj2, rfl, rfl, hy, hc, hb⟩ := hrel;have XR := Hd (kept X4.out hb);have BR := Hd (chain B4.out hb);have HBR := Hd hb;have HC := Hd hc;clear hb hc;have y0 := cl XR.out 0 rfl;have y1 := cl XR.out 1 rfl;have y2 := cl XR.out 2 rfl;have y3 := cl XR.out 3 rfl
  by_cases hlt : j < most
  ·have hji : (j : Int) < (most : Int) := by omega
   have hfu := FS.out (most - j - 1) j y;rw [show most - j - 1 + 1 = most - j from by omega, HC.out] at hfu
   by_cases hhy : half ≤ y
   ·rw [if_pos hhy] at hfu
    subst hfu;have hhi : (half : Int) ≤ (y : Int) := by omega
    clear hhy HC F0 FS FZ;go_wp2_with fail;try rw [Exit.noGoto_ret]
    go_ret;exact ⟨rfl, BR.out⟩
   ·rw [if_neg hhy] at hfu
    have HFU := Hd hfu;have hsl := SHL.out j;have hhi : ¬ (half : Int) ≤ (y : Int) := by omega
    have hyy : IntKind.i64.wrap ((y : Int) + (shareN { leaf := lf, K := K, V := V, C := C } j : Int)) = (y : Int) + (shareN { leaf := lf, K := K, V := V, C := C } j : Int) := IntWalk.i64_in _ (by omega);clear hfu hhy;have SHJ := Hd (SH.out j (by omega) wr BR.out);generalize shareN { leaf := lf, K := K, V := V, C := C } j = sh at *;go_wp2_with fail;refine SHJ.out.mono ?_;rintro e v5 ⟨rfl, b5⟩;go_wp2_with fail;go_roundw
    case rel => exact ⟨j + 1, y + sh, by omega, by omega, by go_num, by go_num, by omega, by rw [HFU.out]; congr 1, chain HBR.out b5⟩
    case measure => simp [intOf]; omega
  ·obtain rfl : j = most := by omega
   have hji : ¬ (j : Int) < (j : Int) := by omega
   have hfz := HC.out;rw [Nat.sub_self, FZ.out] at hfz;subst hfz;clear HC F0 FS FZ;go_wp2_with fail;try rw [Exit.noGoto_ret]
   go_ret;exact ⟨rfl, BR.out⟩
theorem sizeRight_yes (a : Int) (w : World) (h1 : 1 ≤ a) (h2 : a ≤ 8) :
  Calls Tryz.prog 143 #[.int .i64 a] w fun e w' => e = .returned (.bool true) ∧ w = w' := by
 go_enter Tryz.func143, Tryz.ntmps143
 go_wp2
 go_ret;simp
theorem sizeRight_no (a : Int) (w : World) (h : ¬ (1 ≤ a ∧ a ≤ 8)) :
  Calls Tryz.prog 143 #[.int .i64 a] w fun e w' => e = .returned (.bool false) ∧ w = w' := by
 have h' : a < 1 ∨ 8 < a := by omega
 clear h
 rcases h' with h | h
 all_goals
  go_enter Tryz.func143, Tryz.ntmps143
  go_wp2
  go_ret;simp
 omega
theorem fits_any (n : Int) (size : Int) (b : Bool) (w : World) (h1 : 1 ≤ size) (h8 : size ≤ 8) (hb : (n / 2 ^ (8 * size).toNat == 0) = b) :
  Calls Tryz.prog 144 #[.int .u64 n, .int .i64 size] w fun e w' => e = .returned (.bool b) ∧ w = w' := by
 have e1 : min (8 * size).toNat 64 = (8 * size).toNat := by omega
 have H := Hd hb;clear hb;go_enter Tryz.func144, Tryz.ntmps144
 go_wp2
 go_ret;exact ⟨by rw [← H.out]; rfl, rfl⟩
def putArr (n : Int) (size : Nat) : Nat → Array Value
 | 0 => #[.int .u8 0, .int .u8 0, .int .u8 0, .int .u8 0, .int .u8 0, .int .u8 0, .int .u8 0, .int .u8 0]
 | k + 1 => (putArr n size k).setIfInBounds (size - 1 - k) (.int .u8 (n / 2 ^ (8 * k) % 256))
theorem putArr_size (n : Int) (size k : Nat) : (putArr n size k).size = 8 := by
 induction k with
 | zero => rfl
 | succ k ih => simp [putArr, ih]
theorem putArr_at (n : Int) (size k j : Nat) (hj : j < 8) : ∃ v, (putArr n size k)[j]? = some v :=
 ⟨(putArr n size k)[j]'(by rw [putArr_size]; omega), Array.getElem?_eq_getElem _⟩
theorem putArr_get (n : Int) (size k j : Nat) (hs : size ≤ 8) (hk : k ≤ size) (hj : j < size) (hjk : size - 1 - j < k) :
  (putArr n size k)[j]? = some (.int .u8 (n / 2 ^ (8 * (size - 1 - j)) % 256)) := by
 induction k with
 | zero => omega
 | succ k ih =>
  rw [putArr]
  by_cases e : j = size - 1 - k
  ·have ek : size - 1 - j = k := by omega
   rw [ek, ← e, Array.getElem?_setIfInBounds_self_of_lt (by rw [putArr_size]; omega)]
  ·rw [Array.getElem?_setIfInBounds_ne (by omega)]
   exact ih (by omega) (by omega)
theorem byte_of (n : Nat) (k : Nat) : ((UInt8.ofNat (n / 256 ^ k % 256)).toNat : Int) = (n : Int) / 2 ^ (8 * k) % 256 := by
 have e : (256 : Nat) ^ k = 2 ^ (8 * k) := by rw [Nat.pow_mul]
 rw [UInt8.toNat_ofNat', Nat.mod_mod_of_dvd _ (by decide), e, Int.natCast_emod, Int.natCast_ediv, Int.natCast_pow]
 rfl
theorem putArr_be (n : Nat) (size j : Nat) (hs : size ≤ 8) (hj : j < (M.be size n).length) :
  (putArr (n : Int) size size)[j]? = some (.int .u8 (((M.be size n)[j]).toNat : Int)) := by
 have hj' : j < size := by rwa [M.be_length] at hj
 rw [putArr_get _ _ _ _ hs (Nat.le_refl _) hj' (by omega)];have := M.be_get size n j hj';rw [List.getElem?_eq_getElem hj] at this;rw [Option.some.inj this, byte_of]
theorem slice8 (a : Addr) (k : Nat) (hk : k ≤ 8) (W : World) : (Instr.sliceAt 210 (.pointer (some a)) none (some (.int .i64 (k : Int))) none).run Tryz.prog W = .ok (.slice (some a) k 8) W := by
 have hl : Tryz.prog.arrayLen 210 = 8 := by kernel_rfl
 have he : Tryz.prog.elem 210 = 5 := by kernel_rfl
 have hs : ∀ w, (sizeOf 5).run Tryz.prog w = .ok 1 w := fun w => by kernel_rfl
 have ht : Tryz.prog.underlying 210 = some (.array (Tryz.prog.arrayLen 210) (Tryz.prog.elem 210)) := by rw [hl, he]; exact Tryz.underlying210
 rw [run_sliceAt_array_h W _ a ht .i64 k (by omega) (by rw [hl]; omega), he, hs, hl];simp [Result.andThen, slicedAt, Addr.add]
def putOk (n size : Int) : Bool := decide (1 ≤ size ∧ size ≤ 8) && (n / 2 ^ (8 * size).toNat == 0)
def putL (n size : Int) : List UInt8 := if putOk n size = true then M.be size.toNat n.toNat else []
def putE (n size : Int) : Int := if putOk n size = true then 0 else 1
theorem put_ok (m : Nat) (size : Nat) (w : World) (h1 : 1 ≤ size) (h8 : size ≤ 8) (hf : ((m : Int) / 2 ^ (8 * size) == 0) = true) :
  Calls Tryz.prog 121 #[.int .u64 (m : Int), .int .i64 size] w fun e w' => e = .returned (.tuple #[.string (Str (M.be size m)), .int .i64 0]) ∧ Below w.heap.size w w' := by
 have H := Hd hf;clear hf;have hcells := fun j hj => putArr_be m size j h8 hj
 have hconv := run_convert_bytes_back (P := Tryz.prog) (w.alloc (.cells (putArr (m : Int) size size) 210)) 62 9 5 ⟨w.heap.size, 0, none⟩ 8 (M.be size m) Tryz.underlying62 Tryz.underlying5 Tryz.underlying9 (fun j hj => by
  have := hcells j hj;rw [show (⟨w.heap.size, 0, none⟩ : Addr).add j = ⟨w.heap.size, j, none⟩ by unfold Addr.add; split <;> simp_all];rw [← this]; simp)
 rw [M.be_length] at hconv;have HC := Hd hconv;clear hconv hcells;generalize hn : (m : Int) = n at *;have Hn := Hd hn;clear hn;go_enter Tryz.func121, Tryz.ntmps121
 go_wp2_with (first | (go_at_call 143; refine (sizeRight_yes _ _ (by omega) (by omega)).mono ?_; rintro e w' ⟨rfl, rfl⟩) | (go_at_call 144; refine (fits_any _ _ true _ (by omega) (by omega) H.out).mono ?_; rintro e w' ⟨rfl, rfl⟩))
 go_loopw [7, 18] (fun _ i wr => ∃ k : Nat, k ≤ size ∧ i = .int .i64 k ∧ wr = w.alloc (.cells (putArr n size k) 210)) (fun _ i _ => size - (intOf i).toNat)
 case atStart => exact ⟨0, Nat.zero_le _, rfl, rfl⟩
 case round =>
  obtain ⟨k, hk, rfl, rfl⟩ := hrel
  by_cases hlt : k < size
  ·obtain ⟨v, hv⟩ := putArr_at n size k (size - 1 - k) (by omega)
   go_wp2
   go_roundw
   case rel => exact ⟨k + 1, by omega, by go_num, rfl⟩
   case measure => simp [intOf]; omega
  ·obtain rfl : k = size := by omega
   have hconv := HC.out;have hsl := slice8 ⟨w.heap.size, 0, none⟩ k h8
   go_wp2
   go_ret2;exact ⟨rfl, Br.alloc (Nat.le_refl _) _⟩
theorem put_size (n : Int) (size : Int) (w : World) (h : ¬ (1 ≤ size ∧ size ≤ 8)) :
  Calls Tryz.prog 121 #[.int .u64 n, .int .i64 size] w fun e w' => e = .returned (.tuple #[.string ⟨#[]⟩, .int .i64 1]) ∧ w = w' := by
 have H := Hd h;clear h;go_enter Tryz.func121, Tryz.ntmps121
 go_wp2_with (first | (go_at_call 143; refine (sizeRight_no _ _ H.out).mono ?_; rintro e w' ⟨rfl, rfl⟩))
 go_ret2;exact ⟨rfl, rfl⟩
theorem put_wide (n : Int) (size : Int) (w : World) (h1 : 1 ≤ size) (h8 : size ≤ 8) (hf : (n / 2 ^ (8 * size).toNat == 0) = false) :
  Calls Tryz.prog 121 #[.int .u64 n, .int .i64 size] w fun e w' => e = .returned (.tuple #[.string ⟨#[]⟩, .int .i64 1]) ∧ w = w' := by
 have H := Hd hf;clear hf;go_enter Tryz.func121, Tryz.ntmps121
 go_wp2_with (first | (go_at_call 143; refine (sizeRight_yes _ _ (by omega) (by omega)).mono ?_; rintro e w' ⟨rfl, rfl⟩) | (go_at_call 144; refine (fits_any _ _ false _ (by omega) (by omega) H.out).mono ?_; rintro e w' ⟨rfl, rfl⟩))
 go_ret2;exact ⟨rfl, rfl⟩
theorem put_any (n size : Int) (w : World) (h0 : 0 ≤ n) :
  Calls Tryz.prog 121 #[.int .u64 n, .int .i64 size] w fun e w' => e = .returned (.tuple #[.string (Str (putL n size)), .int .i64 (putE n size)]) ∧ Below w.heap.size w w' := by
 by_cases h : 1 ≤ size ∧ size ≤ 8
 ·cases hf : (n / 2 ^ (8 * size).toNat == 0)
  ·refine (put_wide n size w h.1 h.2 hf).mono ?_
   rintro e w' ⟨rfl, rfl⟩;exact ⟨by simp [putL, putE, putOk, hf, Str], Br⟩
  ·obtain ⟨m, rfl⟩ := Int.eq_ofNat_of_zero_le h0
   obtain ⟨s, rfl⟩ := Int.eq_ofNat_of_zero_le (show 0 ≤ size by omega);rw [show (8 * (s : Int)).toNat = 8 * s by omega] at hf;refine (put_ok m s w (by omega) (by omega) hf).mono ?_;rintro e w' ⟨rfl, hb⟩;refine ⟨?_, hb⟩
   have hk : putOk (m : Int) (s : Int) = true := by
    simp only [putOk, show (8 * (s : Int)).toNat = 8 * s by omega, hf, Bool.and_true, decide_eq_true_eq]; exact h
   simp [putL, putE, hk]
 ·refine (put_size n size w h).mono ?_
  rintro e w' ⟨rfl, rfl⟩;exact ⟨by simp [putL, putE, putOk, h, Str], Br⟩
theorem put_yes (n size : Int) (w : World) (h0 : 0 ≤ n) (hk : putOk n size = true) :
  Calls Tryz.prog 121 #[.int .u64 n, .int .i64 size] w fun e w' => e = .returned (.tuple #[.string (Str (M.be size.toNat n.toNat)), .int .i64 0]) ∧ Below w.heap.size w w' := by
 have := put_any n size w h0
 simpa [putL, putE, hk] using this
def takeOk (b : ByteArray) (size : Int) : Bool := decide (1 ≤ size ∧ size ≤ 8) && decide (size ≤ b.size)
def takeN (b : ByteArray) (size : Int) : Int := if takeOk b size = true then (M.val (b.data.toList.take size.toNat) : Int) else 0
def takeR (b : ByteArray) (size : Int) : ByteArray := if takeOk b size = true then b.extract size.toNat b.size else ⟨#[]⟩
def takeE (b : ByteArray) (size : Int) : Int := if takeOk b size = true then 0 else if 1 ≤ size ∧ size ≤ 8 then 2 else 1
theorem wrap_nat (a : Nat) (h : a < 18446744073709551616) : IntKind.u64.wrap (a : Int) = (a : Int) := by
 rw [IntKind.wrap_u64]; exact Int.emod_eq_of_lt (Int.natCast_nonneg _) (Int.ofNat_lt.2 h)
theorem or_byte (v : Nat) (c : UInt8) (h : v * 256 + 255 < 18446744073709551616) :
  bits BinOp.or IntKind.u64 (IntKind.u64.wrap ((v : Int) * 256)) (IntKind.u64.wrap (c.toNat : Int)) = ((v * 256 + c.toNat : Nat) : Int) := by
 have hc : c.toNat < 256 := c.toNat_lt;have h1 : v * 256 < 18446744073709551616 := Nat.lt_of_le_of_lt (Nat.le_add_right _ _) h;have h2 : c.toNat < 18446744073709551616 := Nat.lt_of_lt_of_le hc (by decide);have h3 : v * 256 % 2 ^ 8 = 0 := by simp
 have h4 : c.toNat < 2 ^ 8 := by simp; omega
 have e1 : IntKind.u64.wrap ((v : Int) * 256) = ((v * 256 : Nat) : Int) := wrap_nat _ h1;have e2 : IntKind.u64.wrap (c.toNat : Int) = (c.toNat : Int) := wrap_nat _ h2;rw [e1, e2, u64_or_nat (v * 256) c.toNat h1 h2, nat_join 8 (v * 256) c.toNat h3 h4]
theorem val_step (b : ByteArray) (k : Nat) (h : k < b.size) : M.val (b.data.toList.take (k + 1)) = M.val (b.data.toList.take k) * 256 + b[k].toNat := by
 rw [List.take_succ_eq_append_getElem (by simpa using h), M.val_snoc]; rfl
theorem val_room (b : ByteArray) (k : Nat) (h : k ≤ 7) : M.val (b.data.toList.take k) * 256 + 255 < 18446744073709551616 := by
 have h1 := M.val_lt (b.data.toList.take k);have h2 : 256 ^ (b.data.toList.take k).length ≤ 256 ^ 7 := Nat.pow_le_pow_right (by decide) (by simp; omega);have h3 : (256 : Nat) ^ 7 = 72057594037927936 := by simp
 rw [h3] at h2;generalize M.val (b.data.toList.take k) = v at *;generalize 256 ^ (b.data.toList.take k).length = u at *;omega
theorem take_ok (b : ByteArray) (size : Nat) (w : World) (h1 : 1 ≤ size) (h8 : size ≤ 8) (hl : size ≤ b.size) :
  Calls Tryz.prog 147 #[.string b, .int .i64 size] w fun e w' => e = .returned (.tuple #[.int .u64 (M.val (b.data.toList.take size)), .string (b.extract size b.size), .int .i64 0]) ∧ Below w.heap.size w w' := by
 have ht : decide (b.size < size) = false := by simp; omega
 go_enter Tryz.func147, Tryz.ntmps147
 go_wp2_with (first | (go_at_call 143; refine (sizeRight_yes _ _ (by omega) (by omega)).mono ?_; rintro e w' ⟨rfl, rfl⟩))
 go_loop [4, 7, 16] (fun n _ i => ∃ k : Nat, k ≤ size ∧ i = .int .i64 k ∧ n = .int .u64 (M.val (b.data.toList.take k))) (fun _ _ i => size - (intOf i).toNat)
 case atStart => exact ⟨0, Nat.zero_le _, rfl, rfl⟩
 case round =>
  obtain ⟨k, hk, rfl, rfl⟩ := hrel
  by_cases hlt : k < size
  ·go_wp2
   go_round
   case rel => exact ⟨k + 1, by omega, by go_num, by rw [val_step b k (by omega), ← or_byte _ _ (val_room b k (by omega))]⟩
   case measure => simp [intOf]; omega
  ·obtain rfl : k = size := by omega
   go_wp2
   go_region
   all_goals go_wp2
   all_goals go_ret3
   all_goals exact ⟨rfl, Br.drew⟩
theorem take_size (b : ByteArray) (size : Int) (w : World) (h : ¬ (1 ≤ size ∧ size ≤ 8)) :
  Calls Tryz.prog 147 #[.string b, .int .i64 size] w fun e w' => e = .returned (.tuple #[.int .u64 0, .string ⟨#[]⟩, .int .i64 1]) ∧ w = w' := by
 have H := Hd h;clear h;go_enter Tryz.func147, Tryz.ntmps147
 go_wp2_with (first | (go_at_call 143; refine (sizeRight_no _ _ H.out).mono ?_; rintro e w' ⟨rfl, rfl⟩))
 go_ret3;exact ⟨rfl, rfl⟩
theorem take_short (b : ByteArray) (size : Int) (w : World) (h1 : 1 ≤ size) (h8 : size ≤ 8) (hl : (b.size : Int) < size) :
  Calls Tryz.prog 147 #[.string b, .int .i64 size] w fun e w' => e = .returned (.tuple #[.int .u64 0, .string ⟨#[]⟩, .int .i64 2]) ∧ w = w' := by
 go_enter Tryz.func147, Tryz.ntmps147
 go_wp2_with (first | (go_at_call 143; refine (sizeRight_yes _ _ (by omega) (by omega)).mono ?_; rintro e w' ⟨rfl, rfl⟩))
 go_ret3;exact ⟨rfl, rfl⟩
theorem take_any (b : ByteArray) (size : Int) (w : World) :
  Calls Tryz.prog 147 #[.string b, .int .i64 size] w fun e w' => e = .returned (.tuple #[.int .u64 (takeN b size), .string (takeR b size), .int .i64 (takeE b size)]) ∧ Below w.heap.size w w' := by
 by_cases h : 1 ≤ size ∧ size ≤ 8
 ·by_cases hl : size ≤ b.size
  ·have hk : takeOk b size = true := by simp [takeOk, h, hl]
   obtain ⟨s, rfl⟩ := Int.eq_ofNat_of_zero_le (show 0 ≤ size by omega);refine (take_ok b s w (by omega) (by omega) (by omega)).mono ?_;rintro e w' ⟨rfl, hb⟩;exact ⟨by simp [takeN, takeR, takeE, hk], hb⟩
  ·refine (take_short b size w h.1 h.2 (by omega)).mono ?_
   rintro e w' ⟨rfl, rfl⟩;exact ⟨by simp [takeN, takeR, takeE, takeOk, h, hl], Br⟩
 ·refine (take_size b size w h).mono ?_
  rintro e w' ⟨rfl, rfl⟩;exact ⟨by simp [takeN, takeR, takeE, takeOk, h], Br⟩
theorem take_yes (b : ByteArray) (size : Int) (w : World) (hk : takeOk b size = true) :
  Calls Tryz.prog 147 #[.string b, .int .i64 size] w fun e w' => e = .returned (.tuple #[.int .u64 (M.val (b.data.toList.take size.toNat)), .string (b.extract size.toNat b.size), .int .i64 0]) ∧ Below w.heap.size w w' := by
 have := take_any b size w
 simpa [takeN, takeR, takeE, hk] using this
def textL (s : ByteArray) : ByteArray := if s.size ≤ 255 then Str (UInt8.ofNat s.size :: s.data.toList) else ⟨#[]⟩
def textE (s : ByteArray) : Int := if s.size ≤ 255 then 0 else 16
theorem put1 (n : Nat) (h : n ≤ 255) : putOk (n : Int) 1 = true := by simp [putOk]; omega
theorem be1 (n : Nat) (h : n ≤ 255) : M.be (1 : Int).toNat (n : Int).toNat = [UInt8.ofNat n] := by
 show [UInt8.ofNat (n % 256)] = _
 rw [Nat.mod_eq_of_lt (by omega)]
theorem text_short (s : ByteArray) (w : World) (h : s.size ≤ 255) :
  Calls Tryz.prog 150 #[.string s] w fun e w' => e = .returned (.tuple #[.string (textL s), .int .i64 (textE s)]) ∧ Below w.heap.size w w' := by
 have ht : decide (255 < s.size) = false := by simp; omega
 have hp := Hd (put1 s.size h);have hz : (Str (M.be (1 : Int).toNat (s.size : Int).toNat)).size = 1 := by rw [be1 _ h]; rfl
 have fin : Ending.returned (.tuple #[.string (Str (M.be (1 : Int).toNat (s.size : Int).toNat) ++ s), .int .i64 0]) = Ending.returned (.tuple #[.string (textL s), .int .i64 (textE s)]) := by
  rw [be1 _ h, Str_append]; simp [textL, textE, h]
 have F := Hd fin;clear fin;generalize hg : Str (M.be (1 : Int).toNat (s.size : Int).toNat) = p at *;have G := Hd hg;have hz1 : p.size ≤ 1 := by omega
 clear hg hz;go_enter Tryz.func150, Tryz.ntmps150
 go_wp2_with (first | (go_at_call 121; refine (put_yes _ _ _ (by omega) hp.out).mono ?_; rw [G.out]; rintro e w1 ⟨rfl, hb⟩))
 go_ret2;exact ⟨F.out, by assumption⟩
theorem text_long (s : ByteArray) (w : World) (h : 255 < s.size) :
  Calls Tryz.prog 150 #[.string s] w fun e w' => e = .returned (.tuple #[.string (textL s), .int .i64 (textE s)]) ∧ Below w.heap.size w w' := by
 have fin : Ending.returned (.tuple #[.string ⟨#[]⟩, .int .i64 16]) = Ending.returned (.tuple #[.string (textL s), .int .i64 (textE s)]) := by
  simp [textL, textE, show ¬ s.size ≤ 255 by omega]
 have F := Hd fin;clear fin;go_enter Tryz.func150, Tryz.ntmps150
 go_wp2
 go_ret2;exact ⟨F.out, Br⟩
theorem text_any (s : ByteArray) (w : World) :
  Calls Tryz.prog 150 #[.string s] w fun e w' => e = .returned (.tuple #[.string (textL s), .int .i64 (textE s)]) ∧ Below w.heap.size w w' := by
 by_cases h : s.size ≤ 255
 ·exact text_short s w h
 ·exact text_long s w (by omega)
def ttN (s : ByteArray) : Nat := M.val (s.data.toList.take (1 : Int).toNat)
def ttB (s : ByteArray) : ByteArray := s.extract (1 : Int).toNat s.size
def ttOk (s : ByteArray) : Bool := decide (1 ≤ s.size) && decide (ttN s ≤ (ttB s).size)
def ttS (s : ByteArray) : ByteArray := if ttOk s = true then (ttB s).extract 0 (ttN s) else ⟨#[]⟩
def ttR (s : ByteArray) : ByteArray := if ttOk s = true then (ttB s).extract (ttN s) (ttB s).size else ⟨#[]⟩
def ttE (s : ByteArray) : Int := if ttOk s = true then 0 else 2
theorem takeText_none (s : ByteArray) (w : World) (h : s.size = 0) :
  Calls Tryz.prog 160 #[.string s] w fun e w' => e = .returned (.tuple #[.string ⟨#[]⟩, .string ⟨#[]⟩, .int .i64 2]) ∧ Below w.heap.size w w' := by
 have H := Hd h;clear h;go_enter Tryz.func160, Tryz.ntmps160
 go_wp2_with (first | (go_at_call 147; refine (take_short _ _ _ (by omega) (by omega) (by rw [H.out]; decide)).mono ?_; rintro e w1 ⟨rfl, rfl⟩))
 go_ret3;exact ⟨rfl, Br⟩
theorem takeText_short (s r : ByteArray) (n : Nat) (w : World) (hn : M.val (s.data.toList.take (1 : Int).toNat) = n) (hr : s.extract (1 : Int).toNat s.size = r) (hk : takeOk s 1 = true) (hx : r.size < n) (_hb : n < 256) :
  Calls Tryz.prog 160 #[.string s] w fun e w' => e = .returned (.tuple #[.string ⟨#[]⟩, .string ⟨#[]⟩, .int .i64 2]) ∧ Below w.heap.size w w' := by
 have H := Hd hn;have R := Hd hr;have K := Hd hk;have ht : decide (r.size < n) = true := by simp; omega
 clear hn hr hk;go_enter Tryz.func160, Tryz.ntmps160
 go_wp2_with (first | (go_at_call 147; refine (take_yes _ _ _ K.out).mono ?_; rw [H.out, R.out]; rintro e w1 ⟨rfl, hb⟩))
 go_ret3;exact ⟨rfl, by assumption⟩
theorem takeText_ok (s r : ByteArray) (n : Nat) (w : World) (hn : M.val (s.data.toList.take (1 : Int).toNat) = n) (hr : s.extract (1 : Int).toNat s.size = r) (hk : takeOk s 1 = true) (hx : n ≤ r.size) (_hb : n < 256) (hm : r.size ≤ 9223372036854775807) :
  Calls Tryz.prog 160 #[.string s] w fun e w' => e = .returned (.tuple #[.string (r.extract 0 n), .string (r.extract n r.size), .int .i64 0]) ∧ Below w.heap.size w w' := by
 have H := Hd hn;have R := Hd hr;have K := Hd hk;have ht : decide (r.size < n) = false := by simp; omega
 clear hn hr hk;go_enter Tryz.func160, Tryz.ntmps160
 go_wp2_with (first | (go_at_call 147; refine (take_yes _ _ _ K.out).mono ?_; rw [H.out, R.out]; rintro e w1 ⟨rfl, hb⟩))
 go_region
 all_goals go_wp2
 all_goals go_ret3
 all_goals exact ⟨rfl, hb.drew⟩
theorem take1_lt (s : ByteArray) : ttN s < 256 := by
 have h1 := M.val_lt (s.data.toList.take (1 : Int).toNat);have h2 : 256 ^ (s.data.toList.take (1 : Int).toNat).length ≤ 256 ^ 1 := Nat.pow_le_pow_right (by decide) (by simp; omega);unfold ttN;omega
theorem takeText_any (s : ByteArray) (w : World) (hm : s.size ≤ 9223372036854775807) :
  Calls Tryz.prog 160 #[.string s] w fun e w' => e = .returned (.tuple #[.string (ttS s), .string (ttR s), .int .i64 (ttE s)]) ∧ Below w.heap.size w w' := by
 by_cases h : 1 ≤ s.size
 ·have hk : takeOk s 1 = true := by simp [takeOk]; omega
  have hb := take1_lt s
  by_cases hx : ttN s ≤ (ttB s).size
  ·have ho : ttOk s = true := by simp [ttOk, h, hx]
   refine (takeText_ok s (ttB s) (ttN s) w rfl rfl hk hx hb (by simp [ttB]; omega)).mono ?_;rintro e w' ⟨rfl, hb⟩;exact ⟨by simp [ttS, ttR, ttE, ho], hb⟩
  ·refine (takeText_short s (ttB s) (ttN s) w rfl rfl hk (by omega) hb).mono ?_
   rintro e w' ⟨rfl, hb⟩;exact ⟨by simp [ttS, ttR, ttE, ttOk, h, hx], hb⟩
 ·refine (takeText_none s w (by omega)).mono ?_
  rintro e w' ⟨rfl, hb⟩;exact ⟨by simp [ttS, ttR, ttE, ttOk, h], hb⟩
theorem putOk_nat (m : Nat) (size : Int) : putOk (m : Int) size = true ↔ 1 ≤ size ∧ size ≤ 8 ∧ m < 256 ^ size.toNat := by
 simp only [putOk, Bool.and_eq_true, decide_eq_true_eq, beq_iff_eq];constructor
 ·rintro ⟨⟨h1, h8⟩, h⟩
  refine ⟨h1, h8, ?_⟩;obtain ⟨s, rfl⟩ := Int.eq_ofNat_of_zero_le (show 0 ≤ size by omega);rw [show (8 * (s : Int)).toNat = 8 * s by omega] at h;have h' : m / 2 ^ (8 * s) = 0 := by exact_mod_cast h
  have hp : 0 < 2 ^ (8 * s) := Nat.pow_pos (by decide);have e : (256 : Nat) ^ s = 2 ^ (8 * s) := by rw [Nat.pow_mul]
  simp only [Int.toNat_natCast];rw [e];exact (Nat.div_eq_zero_iff_lt hp).1 h'
 ·rintro ⟨h1, h8, h⟩
  refine ⟨⟨h1, h8⟩, ?_⟩;obtain ⟨s, rfl⟩ := Int.eq_ofNat_of_zero_le (show 0 ≤ size by omega);rw [show (8 * (s : Int)).toNat = 8 * s by omega];simp only [Int.toNat_natCast] at h;have hp : 0 < 2 ^ (8 * s) := Nat.pow_pos (by decide);have e : (256 : Nat) ^ s = 2 ^ (8 * s) := by rw [Nat.pow_mul]
  rw [e] at h;have h' := (Nat.div_eq_zero_iff_lt hp).2 h
  exact_mod_cast h'
theorem putOk_lt {n size : Int} (h0 : 0 ≤ n) (h : putOk n size = true) : n.toNat < 256 ^ size.toNat ∧ 1 ≤ size ∧ size ≤ 8 := by
 obtain ⟨a, rfl⟩ := Int.eq_ofNat_of_zero_le h0;have := (putOk_nat a size).1 h;exact ⟨by simpa using this.2.2, this.1, this.2.1⟩
theorem take_be (m s : Nat) (rest : ByteArray) : (Str (M.be s m) ++ rest).data.toList.take s = M.be s m := by
 rw [append_list, Str_list];exact List.take_left' (M.be_length s m)
theorem val_take_be (m s : Nat) (rest : ByteArray) (h : m < 256 ^ s) : M.val ((Str (M.be s m) ++ rest).data.toList.take s) = m := by
 rw [take_be, M.val_be, Nat.mod_eq_of_lt h]
theorem extract_right (l : List UInt8) (rest : ByteArray) : (Str l ++ rest).extract l.length (Str l ++ rest).size = rest := by
 apply eq_of_data;rw [extract_list, append_list, Str_list, List.drop_left, List.take_of_length_le];simp [Str_size]
theorem extract_left (s rest : ByteArray) : (s ++ rest).extract 0 s.size = s := by
 apply eq_of_data;rw [extract_list, append_list, List.drop_zero, Nat.sub_zero, List.take_left' (size_list s)]
theorem extract_right' (s rest : ByteArray) : (s ++ rest).extract s.size (s ++ rest).size = rest := by
 apply eq_of_data;rw [extract_list, append_list, List.drop_left' (size_list s), List.take_of_length_le];simp
theorem take_extract (r : ByteArray) (n : Nat) : Str (r.data.toList.take n) ++ r.extract n r.size = r := by
 apply eq_of_data;rw [append_list, Str_list, extract_list];have : (r.data.toList.drop n).take (r.size - n) = r.data.toList.drop n := List.take_of_length_le (by simp);rw [this, List.take_append_drop]
theorem put_val (r : ByteArray) (size : Nat) (h1 : 1 ≤ size) (h8 : size ≤ 8) : putOk (M.val (r.data.toList.take size) : Int) (size : Int) = true := by
 rw [putOk_nat];refine ⟨by omega, by omega, ?_⟩;have h1 := M.val_lt (r.data.toList.take size);simp only [Int.toNat_natCast];exact Nat.lt_of_lt_of_le h1 (Nat.pow_le_pow_right (by decide) (List.length_take_le _ _))
theorem be_val_take (r : ByteArray) (size : Nat) (h : size ≤ r.size) : M.be size (M.val (r.data.toList.take size)) = r.data.toList.take size :=
 M.be_eq _ _ (by rw [List.length_take, size_list]; omega)
theorem textL_size1 (s : ByteArray) (h : s.size ≤ 255) : (textL s).size = s.size + 1 := by simp [textL, h, Str_size]
theorem text_app (s rest : ByteArray) (h : s.size ≤ 255) : textL s ++ rest = Str (UInt8.ofNat s.size :: (s ++ rest).data.toList) := by
 apply eq_of_data;simp [textL, h, Str]
theorem ttN_text (s rest : ByteArray) (h : s.size ≤ 255) : ttN (textL s ++ rest) = s.size := by
 rw [text_app s rest h];unfold ttN;rw [Str_list];simp only [Int.toNat_one, List.take_succ_cons, List.take_zero, M.val, List.foldl_cons, List.foldl_nil, UInt8.toNat_ofNat'];omega
theorem ttB_text (s rest : ByteArray) (h : s.size ≤ 255) : ttB (textL s ++ rest) = s ++ rest := by
 apply eq_of_data;unfold ttB;rw [extract_list, text_app s rest h, Str_list];simp only [Int.toNat_one, List.drop_succ_cons, List.drop_zero];rw [List.take_of_length_le];simp [Str_size]
theorem ttOk_text (s rest : ByteArray) (h : s.size ≤ 255) : ttOk (textL s ++ rest) = true := by
 have e : (textL s ++ rest).size = s.size + 1 + rest.size := by rw [ByteArray.size_append, textL_size1 s h]
 simp only [ttOk, ttN_text s rest h, ttB_text s rest h, ByteArray.size_append, Bool.and_eq_true, decide_eq_true_eq, e];omega
theorem tt_text (s rest : ByteArray) (h : s.size ≤ 255) : ttS (textL s ++ rest) = s ∧ ttR (textL s ++ rest) = rest ∧ ttE (textL s ++ rest) = 0 := by
 simp only [ttS, ttR, ttE, ttOk_text s rest h, if_true, ttN_text s rest h, ttB_text s rest h, extract_left, extract_right', and_self]
theorem pt_n {n k : Int} (rest : ByteArray) (h0 : 0 ≤ n) (h : putOk n k = true) : takeN (Str (putL n k) ++ rest) k = n ∧ takeR (Str (putL n k) ++ rest) k = rest := by
 obtain ⟨m, rfl⟩ := Int.eq_ofNat_of_zero_le h0;obtain ⟨s1, s8, hm⟩ := (putOk_nat m k).1 h;obtain ⟨s, rfl⟩ := Int.eq_ofNat_of_zero_le (show 0 ≤ k by omega);simp only [Int.toNat_natCast] at hm;have e : putL (m : Int) (s : Int) = M.be s m := by unfold putL; rw [h, if_pos rfl]; rfl
 have hz : (Str (M.be s m)).size = s := by rw [Str_size, M.be_length]
 have hk : takeOk (Str (M.be s m) ++ rest) (s : Int) = true := by
  unfold takeOk;rw [ByteArray.size_append, hz, Bool.and_eq_true, decide_eq_true_eq, decide_eq_true_eq]; omega
 rw [e];refine ⟨?_, ?_⟩
 ·unfold takeN; rw [hk, if_pos rfl, Int.toNat_natCast, val_take_be m s rest hm]
 ·unfold takeR; rw [hk, if_pos rfl, Int.toNat_natCast]
  have := extract_right (M.be s m) rest;rw [M.be_length] at this; exact this
theorem pt_size {n k : Int} (h : putOk n k = true) : ((Str (putL n k)).size : Int) = k := by
 unfold putL;rw [h, if_pos rfl, Str_size, M.be_length];simp [putOk] at h; omega
theorem pt_room (s : ByteArray) {k : Int} (h1 : 1 ≤ k) (h8 : k ≤ 8) : putOk (takeN s k) k = true ∧ 0 ≤ takeN s k := by
 obtain ⟨j, rfl⟩ := Int.eq_ofNat_of_zero_le (show 0 ≤ k by omega);unfold takeN
 split
 ·exact ⟨put_val s j (by omega) (by omega), by omega⟩
 ·refine ⟨?_, Int.le_refl _⟩
  have := (putOk_nat 0 (j : Int)).2 ⟨by omega, by omega, Nat.pos_of_ne_zero (by simp)⟩;exact this
theorem pt_back (s : ByteArray) {k : Int} (h1 : 1 ≤ k) (h8 : k ≤ 8) (hs : k ≤ s.size) : Str (putL (takeN s k) k) ++ takeR s k = s ∧ ((takeR s k).size : Int) + k = s.size := by
 obtain ⟨j, rfl⟩ := Int.eq_ofNat_of_zero_le (show 0 ≤ k by omega);have hk : takeOk s (j : Int) = true := by unfold takeOk; rw [Bool.and_eq_true, decide_eq_true_eq, decide_eq_true_eq]; omega
 have ho := (pt_room s h1 h8).1
 have e : putL (takeN s j) j = s.data.toList.take j := by
  unfold putL; rw [ho, if_pos rfl, Int.toNat_natCast];unfold takeN; rw [hk, if_pos rfl, Int.toNat_natCast, Int.toNat_natCast];exact be_val_take s j (by omega)
 have e2 : takeR s j = s.extract j s.size := by unfold takeR; rw [hk, if_pos rfl, Int.toNat_natCast]
 rw [e, e2, take_extract];refine ⟨rfl, ?_⟩;rw [ByteArray.size_extract]; omega
theorem empty_of_size {s : ByteArray} (h : s.size = 0) : s = ⟨#[]⟩ := by
 apply eq_of_data;have := size_list s;rw [h] at this;rw [List.length_eq_zero_iff.1 this]
theorem tt_back (s : ByteArray) (h : ttOk s = true) : textL (ttS s) ++ ttR s = s ∧ (ttS s).size = ttN s ∧ ttN s ≤ 255 ∧ (ttS s).size + 1 + (ttR s).size = s.size := by
 have hk := h;unfold ttOk at h;simp only [Bool.and_eq_true, decide_eq_true_eq] at h;obtain ⟨h1, h2⟩ := h;have hb : ttB s = s.extract 1 s.size := rfl;have hn : ttN s ≤ 255 := by have := take1_lt s; omega
 have hS : ttS s = (ttB s).extract 0 (ttN s) := by unfold ttS; rw [hk, if_pos rfl]
 have hR : ttR s = (ttB s).extract (ttN s) (ttB s).size := by unfold ttR; rw [hk, if_pos rfl]
 have hz : (ttS s).size = ttN s := by rw [hS, ByteArray.size_extract]; omega
 have hj : ttS s ++ ttR s = ttB s := by
  apply eq_of_data;rw [append_list, hS, hR, extract_list, extract_list, List.drop_zero, Nat.sub_zero];have : ((ttB s).data.toList.drop (ttN s)).take ((ttB s).size - ttN s) = (ttB s).data.toList.drop (ttN s) := List.take_of_length_le (by simp);rw [this, List.take_append_drop]
 have hbz : (ttB s).size + 1 = s.size := by rw [hb, ByteArray.size_extract]; omega
 have hsum : (ttS s).size + (ttR s).size = (ttB s).size := by rw [← hj, ByteArray.size_append]
 refine ⟨?_, hz, hn, by omega⟩;rw [text_app _ _ (by omega), hj, hz];apply eq_of_data;rw [Str_list, hb, extract_list];obtain ⟨⟨l⟩⟩ := s
 cases l with
 | nil => simp [ByteArray.size] at h1
 | cons c t =>
  have e : UInt8.ofNat (ttN ⟨⟨c :: t⟩⟩) = c := by
   have : ttN ⟨⟨c :: t⟩⟩ = c.toNat := by simp [ttN, M.val]
   rw [this]; simp
  rw [e];simp [ByteArray.size]
theorem tt_no (s : ByteArray) (h : ttOk s = false) : ttS s = ⟨#[]⟩ ∧ ttR s = ⟨#[]⟩ := by
 unfold ttS ttR; rw [h]; exact ⟨rfl, rfl⟩
theorem rising_yes (K : List Int) (a : Option Addr) (c : Nat) (w : World) (h : Rd w a (K.map ukey)) (h1 : K.length ≤ 1000) (hs : ∀ i (h : i + 1 < K.length), K[i] < K[i + 1]) :
  Calls Tryz.prog 161 #[.slice a K.length c] w fun e w' => e = .returned (.bool true) ∧ Below w.heap.size w w' := by
 have HR := Hd h;have HS := Hd hs;obtain ⟨m, hm⟩ : ∃ m, K.length = m := ⟨_, rfl⟩
 rw [hm] at h1 ⊢;clear h hs;go_enter Tryz.func161, Tryz.ntmps161;go_wp2_with fail
 go_loopw [3] (fun i wr => ∃ j q : Nat, j ≤ 1000 ∧ i = .int .i64 ((j : Int) + 1) ∧ wr = w.drewN q) (fun i _ => 1002 - (intOf i).toNat)
 case atStart => exact ⟨0, 0, by omega, rfl, rfl⟩
 case round =>
  obtain ⟨j, q, hj, rfl, rfl⟩ := hrel
  by_cases hlt : j + 1 < m
  ·have hji : (j : Int) + 1 < (m : Int) := by omega
   have hji2 : (j : Int) < (m : Int) := by omega
   have hjl : j < (K.map ukey).length := by rw [List.length_map]; omega
   have hjl2 : j + 1 < (K.map ukey).length := by rw [List.length_map]; omega
   obtain ⟨b, off, hab, hb, z1⟩ := HR.out.at j hjl;obtain ⟨b2, off2, hab2, _, z2⟩ := HR.out.at (j + 1) hjl2;rw [hab] at hab2
   obtain ⟨rfl, rfl⟩ : b2 = b ∧ off2 = off := by
    have := Option.some.inj hab2;exact ⟨(congrArg Addr.block this).symm, (congrArg Addr.off this).symm⟩
   subst hab;have e1 : (K.map ukey)[j] = .int .u64 (K[j]'(by omega)) := by rw [List.getElem_map]; rfl
   have e2 : (K.map ukey)[j + 1] = .int .u64 (K[j + 1]'(by omega)) := by rw [List.getElem_map]; rfl
   rw [e1] at z1;rw [e2] at z2;have hlt2 := HS.out j (by omega);clear e1 e2 hab2 hb;generalize K[j]'(by omega) = x at *;generalize K[j + 1]'(by omega) = y at *;have hge : ¬ (y ≤ x) := by omega
   have hw0 : IntKind.i64.wrap ((j : Int) + 1 - 1) = (j : Int) := by rw [IntKind.wrap_i64]; omega
   have hw1 : IntKind.i64.wrap (j : Int) = (j : Int) := by rw [IntKind.wrap_i64]; omega
   have ht1 : ((j : Int) + 1).toNat = j + 1 := by omega
   clear hlt2;go_wp2_with fail
   go_quiet (fail)
   go_wp2_with fail;go_roundw
   case rel => exact ⟨j + 1, _, by omega, by go_num, rfl⟩
   case measure => simp [intOf]; omega
  ·have hji : ¬ (j : Int) + 1 < (m : Int) := by omega
   go_wp2_with fail;go_ret;exact ⟨rfl, drewN_below Br _⟩
theorem plain_yes (n : Nod) (ak av ac : Option Addr) (ck cv cc : Nat) (w : World) (h : NodR w n ak av ac ck cv cc) (hw : wholeB n = true) (hs : ∀ i (h : i + 1 < n.K.length), n.K[i] < n.K[i + 1]) (hv : ∀ v ∈ n.V, v.size ≤ 40) (hc : ∀ c ∈ n.C, 2 ≤ c ∧ c < 640) :
  Calls Tryz.prog 156 #[nodV n ak av ac ck cv cc] w fun e w' => e = .returned (.bool true) ∧ Below w.heap.size w w' := by
 have WH := Hd (fun w => whole_any n ak av ac ck cv cc w h.ok true hw);have RI := Hd (fun w' (hb : Below w.heap.size w w') => rising_yes n.K ak ck w' (h.k.below hb) h.ok.k1 hs);have hv1 := h.ok.v1;have hc1 := h.ok.c1;have HV0 := h.v;have HC0 := h.c;clear h hw hs;obtain ⟨lf, K, V, C⟩ := n;unfold nodV at *
 dsimp only at WH RI hv1 hc1 HV0 HC0 hv hc ⊢
 obtain ⟨lk, hlk⟩ : ∃ lk, K.length = lk := ⟨_, rfl⟩
 obtain ⟨lv, hlv⟩ : ∃ lv, V.length = lv := ⟨_, rfl⟩
 obtain ⟨lc, hlc⟩ : ∃ lc, C.length = lc := ⟨_, rfl⟩
 rw [hlk, hlv, hlc] at WH ⊢;rw [hlk] at RI;rw [hlv] at hv1;rw [hlc] at hc1;obtain ⟨W, hW⟩ : ∃ W, w.alloc (.cells #[.bool lf, .slice ak lk ck, .slice av lv cv, .slice ac lc cc] 97) = W := ⟨_, rfl⟩
 have bel : Below w.heap.size w W := by rw [← hW]; exact below_made _ _
 have XA : W.heap[w.heap.size]? = some (.cells #[.bool lf, .slice ak lk ck, .slice av lv cv, .slice ac lc cc] 97) := by rw [← hW]; exact han w _
 have x0 := cl XA 0 rfl;have x1 := cl XA 1 rfl;have x2 := cl XA 2 rfl;have x3 := cl XA 3 rfl;have HV := Hd (HV0.below bel);have HC := Hd (HC0.below bel);have HVB := Hd hv;have HCB := Hd hc;have BEL := Hd bel;have XH := Hd XA;have HW := Hd hW;clear bel XA hW HV0 HC0 hv hc;go_enter Tryz.func156, Tryz.ntmps156;go_upto_region 1 with fail
 rw [HW.out];go_wp2_with fail
 go_loop [10] (fun i => ∃ j : Nat, j ≤ lv ∧ i = .int .i64 (j : Int)) (fun i => lv + 1 - (intOf i).toNat)
 case atStart => exact ⟨0, Nat.zero_le _, rfl⟩
 case round =>
  obtain ⟨j, hj, rfl⟩ := hrel
  by_cases hlt : j < lv
  ·have hji : (j : Int) < (lv : Int) := by omega
   have hjl : j < (V.map Value.string).length := by rw [List.length_map]; omega
   obtain ⟨b, off, rfl, hb, z⟩ := HV.out.at j hjl;have e1 : (V.map Value.string)[j] = .string (V[j]'(by omega)) := by rw [List.getElem_map]
   rw [e1] at z;have hz := HVB.out (V[j]'(by omega)) (List.getElem_mem _);clear e1 hb;generalize V[j]'(by omega) = x at *;have hz2 : ¬ (40 : Int) < (x.size : Int) := by omega
   clear hz;go_wp2_with fail
   go_round
   case rel => exact ⟨j + 1, by omega, by go_num⟩
   case measure => simp [intOf]; omega
  ·obtain rfl : j = lv := by omega
   have hji : ¬ (j : Int) < (j : Int) := by omega
   go_wp2_with fail
   go_loop [21] (fun i => ∃ k : Nat, k ≤ lc ∧ i = .int .i64 (k : Int)) (fun i => lc + 1 - (intOf i).toNat)
   case atStart => exact ⟨0, Nat.zero_le _, rfl⟩
   case round =>
    obtain ⟨k, hk, rfl⟩ := hrel
    by_cases hlt2 : k < lc
    ·have hki : (k : Int) < (lc : Int) := by omega
     have hkl : k < (C.map ikid).length := by rw [List.length_map]; omega
     obtain ⟨b, off, rfl, hb, z⟩ := HC.out.at k hkl;have e1 : (C.map ikid)[k] = .int .i64 (C[k]'(by omega)) := by rw [List.getElem_map]; rfl
     rw [e1] at z;have hz := HCB.out (C[k]'(by omega)) (List.getElem_mem _);clear e1 hb;generalize C[k]'(by omega) = x at *;have hz1 : ¬ x < 2 := by omega
     have hz2 : ¬ 640 ≤ x := by omega
     clear hz;go_wp2_with fail
     go_round
     case rel => exact ⟨k + 1, by omega, by go_num⟩
     case measure => simp [intOf]; omega
    ·obtain rfl : k = lc := by omega
     have hki : ¬ (k : Int) < (k : Int) := by omega
     go_wp2_with fail;refine (WH.out _).mono ?_;rintro e w1 ⟨rfl, b1⟩;have B1 := Hd (chain BEL.out b1)
     have y1 : w1.cell? ⟨w.heap.size, 1, none⟩ = some (.slice ak lk ck) := by
      have X1 : w1.heap[w.heap.size]? = _ := (b1.block _ (zl XH.out)).trans XH.out;rw [cob X1]; rfl
     clear b1;go_wp2_with fail;refine (RI.out _ B1.out).mono ?_;rintro e w2 ⟨rfl, b2⟩;go_wp2_with fail;go_ret;exact ⟨rfl, chain B1.out b2⟩
theorem right_yes (n : Nod) (ak av ac : Option Addr) (ck cv cc : Nat) (w : World) (h : NodR w n ak av ac ck cv cc) (hw : wholeB n = true) (hs : ∀ i (h : i + 1 < n.K.length), n.K[i] < n.K[i + 1]) (hv : ∀ v ∈ n.V, v.size ≤ 40) (hc : ∀ c ∈ n.C, 2 ≤ c ∧ c < 640) (h0 : n.leaf = true) (h1 : 0 < n.K.length) (hz : sizeN n ≤ 240) :
  Calls Tryz.prog 136 #[nodV n ak av ac ck cv cc] w fun e w' => e = .returned (.bool true) ∧ Below w.heap.size w w' := by
 obtain ⟨z, hzz⟩ : ∃ z, sizeN n = z := ⟨_, rfl⟩
 have PL := Hd (fun w' (hb : Below w.heap.size w w') => plain_yes n ak av ac ck cv cc w' (h.below hb) hw hs hv hc);have SZ := Hd (fun w' (hb : Below w.heap.size w w') => size_is n ak av ac ck cv cc w' (h.below hb) z (Hd hzz) hw);rw [hzz] at hz;clear h hw hs hv hc hzz;obtain ⟨lf, K, V, C⟩ := n;unfold nodV at *
 dsimp only at PL SZ h0 h1 ⊢
 subst h0;generalize K.length = lk at *;generalize V.length = lv at *;generalize C.length = lc at *;have h1i : (0 : Int) < (lk : Int) := by omega
 have hzi : (z : Int) ≤ 240 := by omega
 have b0 : Below w.heap.size w (w.alloc (.cells #[.bool true, .slice ak lk ck, .slice av lv cv, .slice ac lc cc] 97)) := below_made _ _;have B0 := Hd b0;clear b0 h1 hz;go_enter Tryz.func136, Tryz.ntmps136;go_wp2_with fail;refine (PL.out _ B0.out).mono ?_;rintro e w1 ⟨rfl, b1⟩;have X1 := box_kept b1;have B1 := Hd (box_below b1);have y0 := cl X1 0 rfl;have y1 := cl X1 1 rfl;have y2 := cl X1 2 rfl;have y3 := cl X1 3 rfl;clear X1 b1;go_wp2_with fail;refine (SZ.out _ B1.out).mono ?_;rintro e w2 ⟨rfl, b2⟩;go_wp2_with fail;go_ret;exact ⟨rfl, chain B1.out b2⟩
theorem number_is (n size : Int) (x : ByteArray) (w : World) (h0 : 0 ≤ n) (hx : Str (putL n size) = x) :
  Calls Tryz.prog 149 #[.int .u64 n, .int .i64 size] w fun e w' => e = .returned (.string x) ∧ Below w.heap.size w w' := by
 subst hx;have PA := Hd (fun w => put_any n size w h0);generalize Str (putL n size) = x at *;generalize putE n size = y at *;go_enter Tryz.func149, Tryz.ntmps149;go_wp2_with fail;refine (PA.out _).mono ?_;rintro e w1 ⟨rfl, b1⟩;go_wp2_with fail;go_ret;exact ⟨rfl, b1⟩
theorem size_bld : (Tryz.prog.info? 217).map (fun i => i.size) = some 2 := by kernel_rfl
theorem check_used (b : Nat) (w : World) (h0 : w.cell? ⟨b, 0, none⟩ = some (.pointer (some ⟨b, 0, none⟩))) :
  Calls Tryz.prog 159 #[.pointer (some ⟨b, 0, none⟩)] w fun e w' => e = .returned (.tuple #[]) ∧ w' = w := by
 obtain ⟨j, hj, _⟩ := Option.map_eq_some_iff.1 size_bld;go_enter Tryz.func159, Tryz.ntmps159
 go_wp2
 rw [Lib.run_neq_ptr_same w _ Tryz.underlying215 hj]
 go_wp2
 go_end0
 exact ⟨rfl, rfl⟩
theorem check_fresh (b : Nat) (w : World) (h0 : w.cell? ⟨b, 0, none⟩ = some (.pointer none)) (hsh : w.shape? b = some (217, 2)) (hfz : w.frozen? ⟨b, 0, none⟩ = false) :
  Calls Tryz.prog 159 #[.pointer (some ⟨b, 0, none⟩)] w fun e w' => e = .returned (.tuple #[]) ∧ w' = w.setCell ⟨b, 0, none⟩ (.pointer (some ⟨b, 0, none⟩)) := by
 obtain ⟨j, hj, hjs⟩ := Option.map_eq_some_iff.1 size_bld;go_enter Tryz.func159, Tryz.ntmps159
 go_wp2
 rw [Lib.run_to_unsafe w ⟨b, 0, none⟩ Tryz.underlying215 Tryz.underlying235 hj (by rw [hjs]; decide) hsh (Nat.zero_lt_succ 1)];simp only [Result.andThen];rw [Oper.upon_value]
 go_wp2
 rw [run_callFunc_extern Tryz.func163 (by kernel_rfl) (by kernel_rfl) (by kernel_rfl) (e := Extern.AbiNoEscape.same) (by kernel_rfl)];rw [Lib.run_noEscape];simp only [Result.andThen];rw [Oper.upon_value]
 go_wp2
 rw [Lib.run_from_unsafe w ⟨b, 0, none⟩ Tryz.underlying235 Tryz.underlying215 hj hsh (by kernel_rfl)];simp only [Result.andThen];rw [Oper.upon_value]
 go_wp2
 go_end0
 exact ⟨rfl, rfl⟩
theorem check_any (B b : Nat) (bs : List Value) (w : World) (h : Lib.IsBuilder 217 5 B b bs w) :
  Calls Tryz.prog 159 #[.pointer (some ⟨b, 0, none⟩)] w fun e w' => e = .returned (.tuple #[]) ∧ (Lib.BuilderAt 217 5 B b (.pointer (some ⟨b, 0, none⟩)) bs w' ∧ Below B w w') := by
 rcases h with h | h
 ·refine (check_fresh b w h.cell0 h.shape h.frozen0).mono ?_
  rintro e w' ⟨rfl, rfl⟩;exact ⟨rfl, h.used _, (Below.refl B w).setCell (p := ⟨b, 0, none⟩) h.1 _⟩
 ·refine (check_used b w h.cell0).mono ?_
  rintro e w' ⟨rfl, rfl⟩;exact ⟨rfl, h, Below.refl B _⟩
theorem info_b8 : (Tryz.prog.info? 5).map (fun i => (i.zero, i.size, i.bytes)) = some (some (.int .u8 0), 1, 1) := by kernel_rfl
theorem bwrite_any (B b : Nat) (bs : List Value) (s : ByteArray) (w : World) (h : Lib.IsBuilder 217 5 B b bs w) (hlen : bs.length + s.size ≤ 140737488355328) (hBw : B ≤ w.heap.size) :
  Calls Tryz.prog 148 #[.pointer (some ⟨b, 0, none⟩), .string s] w fun e w' => e = .returned (.tuple #[.int .i64 s.size, .nilIface]) ∧ (Lib.BuilderAt 217 5 B b (.pointer (some ⟨b, 0, none⟩)) (bs ++ Lib.strCells s) w' ∧ Below B w w') := by
 obtain ⟨i0, hi, hz0, hz1, hz2⟩ := info_parts info_b8;go_enter Tryz.func148, Tryz.ntmps148
 go_wp2_with (go_at_call 159; refine (check_any B b bs _ h).mono ?_)
 rintro e w1 ⟨rfl, h1, hb1⟩;obtain ⟨hB, v, hbk, hown, hne⟩ := h1;have c0 : w1.cell? ⟨b, 0, none⟩ = some (.pointer (some ⟨b, 0, none⟩)) := by rw [Lib.cell_of_heap hbk]; rfl
 have c1 : w1.cell? ⟨b, 1, none⟩ = some v := by rw [Lib.cell_of_heap hbk]; rfl
 go_wp2_with (at_builtin; refine Lib.wpList_append_own_string _ rfl _ _ 62 9 rfl B 5 i0 Tryz.underlying62 Tryz.underlying9 hi hz0 hz1 hz2 _ _ _ rfl hown s rfl ?c3 ?c4 ?c5 ?_)
 case c3 => unfold maxLen; omega
 case c4 => omega
 case c5 => have := hb1.size; omega
 intro v' w2 hown' hgrow _
 have hlt : b < w1.heap.size := by
  rcases Nat.lt_or_ge b w1.heap.size with h' | h'
  ·exact h'
  ·simp [Array.getElem?_eq_none h'] at hbk
 have hb2 : w2.heap[b]? = some (.cells #[.pointer (some ⟨b, 0, none⟩), v] 217 (0, 0)) := by
  rw [hgrow.block b hlt (fun e => hne e.symm)];exact hbk
 have d0 : w2.cell? ⟨b, 0, none⟩ = some (.pointer (some ⟨b, 0, none⟩)) := by rw [Lib.cell_of_heap hb2]; rfl
 have d1 : w2.cell? ⟨b, 1, none⟩ = some v := by rw [Lib.cell_of_heap hb2]; rfl
 have f1 : w2.frozen? ⟨b, 1, none⟩ = false := Lib.frozen_of_heap hb2 1
 obtain ⟨ao, n', cap, rfl⟩ : ∃ ao n' cap, v' = .slice ao n' cap := by
  rcases hown'.2 with ⟨hv, _⟩ | ⟨g, cap, cur, hv, _⟩
  ·exact ⟨_, _, _, hv⟩
  ·exact ⟨_, _, _, hv⟩
 go_wp2
 go_ret2;refine ⟨rfl, ?_, ?_⟩
 ·exact Lib.BuilderAt.put (T := 217) (e := 5) hB hb2 (bs' := bs ++ Lib.strCells s) (by simpa [Lib.strCells_length] using hown') (by decide)
 ·exact (hb1.grown hgrow (by have := hb1.size; omega) (fun k hk => (hown.lt k hk).1)).setCell (p := ⟨b, 1, none⟩) hB _
end Go.Proofs.YtmomlhiokggfbaaGreatDoor
namespace Go.Proofs
set_option linter.unusedVariables false
set_option linter.unusedSimpArgs false
open Go.Shelf
def Tryz.lays169_ren : Go.Shelf.Ren := ⟨fun | 169 => 151 | n => n, fun | 70 => 215 | 9 => 9 | 0 => 0 | 72 => 217 | 37 => 62 | 127 => 230 | 3 => 3 | 5 => 5 | n => n, fun | n => n⟩
theorem Tryz.lays169 : Go.Proofs.Lays.n169 Tryz.prog Tryz.lays169_ren := {
 mixed := by kernel_rfl
 f169 := Tryz.func151.trans (congrArg some (by kernel_rfl))
 t0 := Tryz.underlying0
 a0 := Tryz.isAgg0
 z0 := Tryz.sizeOf0
 v0 := Tryz.zeroValue0
 t3 := Tryz.underlying3
 a3 := Tryz.isAgg3
 z3 := Tryz.sizeOf3
 v3 := Tryz.zeroValue3
 t9 := Tryz.underlying9
 a9 := Tryz.isAgg9
 z9 := Tryz.sizeOf9
 v9 := Tryz.zeroValue9
 t37 := Tryz.underlying62
 a37 := Tryz.isAgg62
 z37 := Tryz.sizeOf62
 v37 := Tryz.zeroValue62
 t70 := Tryz.underlying215
 a70 := Tryz.isAgg215
 z70 := Tryz.sizeOf215
 v70 := Tryz.zeroValue215
 t72 := Tryz.underlying217
 a72 := Tryz.isAgg217
 z72 := Tryz.sizeOf217
 v72 := Tryz.zeroValue217
 t127 := Tryz.underlying230
 a127 := Tryz.isAgg230
 z127 := Tryz.sizeOf230
 v127 := Tryz.zeroValue230 }
theorem Tryz.Builder_Extra_169 : Builder.Extra Tryz.prog Tryz.lays169_ren := {
 sizeBuilder := by kernel_rfl
 liesBuilder := by kernel_rfl
 t5 := Tryz.underlying5
 a5 := Tryz.isAgg5
 z5 := Tryz.sizeOf5
 v5 := Tryz.zeroValue5
 infoByte := by kernel_rfl
 cellsByte := by kernel_rfl
 sizeByte := by kernel_rfl
 neB5 := by decide }
open Go.RowKit in
theorem Tryz.Builder_String_any (B b : Nat) (l : List UInt8) (w : World) (h : Lib.IsBuilder 217 5 B b (Lib.byteCells l) w) (hBw : B ≤ w.heap.size) :
  Calls Tryz.prog 151 #[.pointer (some ⟨b, 0, none⟩)] w fun e w' => e = .returned (.string ⟨l.toArray⟩) ∧ Below B w w' := Any.Builder_String_any Tryz.lays169 Tryz.Builder_Extra_169 B b l w h hBw
end Go.Proofs
namespace Go.Proofs.YtmomlhiokggfbaaGreatDoor
open Go.RowKit
set_option maxRecDepth 20000
set_option maxHeartbeats 12800000
set_option linter.unusedVariables false
set_option linter.unusedSimpArgs false
theorem own_below {w w' : World} {B : Nat} {e : TypeId} {v : Value} {n : Nat} {xs : List Value} (h : w.ownsRow B e 1 v n xs) (hb : Below w.heap.size w w') : w'.ownsRow B e 1 v n xs := by
 refine ⟨h.1, ?_⟩
 rcases h.2 with hx | ⟨g, cap, cur, hv, hbg, hh, r⟩
 ·exact .inl hx
 ·exact .inr ⟨g, cap, cur, hv, hbg, (hb.block g (zl hh)).trans hh, r⟩
theorem bld_below {w w' : World} {T e : TypeId} {B b : Nat} {bs : List Value} (h : Lib.IsBuilder T e B b bs w) (hb : Below w.heap.size w w') : Lib.IsBuilder T e B b bs w' := by
 rcases h with ⟨h1, v, h2, h3, h4⟩ | ⟨h1, v, h2, h3, h4⟩
 ·exact .inl ⟨h1, v, (hb.block b (zl h2)).trans h2, own_below h3 hb, h4⟩
 ·exact .inr ⟨h1, v, (hb.block b (zl h2)).trans h2, own_below h3 hb, h4⟩
def encJ (K : List Int) (V : List ByteArray) : Nat → List UInt8
 | 0 => [1]
 | j + 1 => encJ K V j ++ putL (K.getD j 0) 8 ++ (textL (V.getD j ByteArray.empty)).data.toList
theorem be_length (k n : Nat) : (M.be k n).length = k := by
 induction k generalizing n with
 | zero => rfl
 | succ k ih => simp [M.be, ih]
theorem putL_le (n : Int) : (putL n 8).length ≤ 8 := by
 unfold putL
 split
 ·rw [be_length]; decide
 ·exact Nat.zero_le _
theorem textL_le (s : ByteArray) : (textL s).size ≤ 256 := by
 unfold textL
 split
 ·rw [Str_size]; simp; omega
 ·exact Nat.zero_le _
theorem encJ_le (K : List Int) (V : List ByteArray) (j : Nat) : (encJ K V j).length ≤ 1 + 264 * j := by
 induction j with
 | zero => exact Nat.le_refl _
 | succ j ih =>
  have h1 := putL_le (K.getD j 0);have h2 := textL_le (V.getD j ByteArray.empty);simp only [encJ, List.length_append, size_list];omega
theorem encode_leaf (n : Nod) (ak av ac : Option Addr) (ck cv cc : Nat) (w : World) (h : NodR w n ak av ac ck cv cc) (hw : wholeB n = true) (hs : ∀ i (h : i + 1 < n.K.length), n.K[i] < n.K[i + 1]) (hv : ∀ v ∈ n.V, v.size ≤ 40) (h0 : n.leaf = true) (h1 : 0 < n.K.length) (hz : sizeN n ≤ 240) :
  Calls Tryz.prog 127 #[nodV n ak av ac ck cv cc] w fun e w' => e = .returned (.tuple #[.string (Str (encJ n.K n.V n.K.length)), .int .i64 0]) ∧ Below w.heap.size w w' := by
 have hwl := (wholeB_leaf h0).1 hw;have RG := Hd (fun w' (hb : Below w.heap.size w w') => right_yes n ak av ac ck cv cc w' (h.below hb) hw hs hv (by rw [List.eq_nil_of_length_eq_zero hwl.2]; intro c hc; cases hc) h0 h1 hz);have hk1 := h.ok.k1;have hkb := h.ok.kb;have HK0 := h.k;have HV0 := h.v;clear h hw hs hv hz;obtain ⟨lf, K, V, C⟩ := n;unfold nodV at *
 dsimp only at RG h0 h1 hwl hk1 hkb HK0 HV0 ⊢
 subst h0;obtain ⟨lk, hlk⟩ : ∃ lk, K.length = lk := ⟨_, rfl⟩
 have hlv : V.length = lk := by rw [hwl.1, hlk]
 rw [hlk, hlv] at RG ⊢;rw [hlk] at hk1;generalize C.length = lc at *;have b0 : Below w.heap.size w (w.alloc (.cells #[.bool true, .slice ak lk ck, .slice av lk cv, .slice ac lc cc] 97)) := below_made _ _;have B0 := Hd b0;have HKB := Hd hkb;have HLE := Hd (encJ_le K V);clear b0 hwl h1 hkb;go_enter Tryz.func127, Tryz.ntmps127;go_wp2_with fail;refine (RG.out _ B0.out).mono ?_;rintro e w1 ⟨rfl, b1⟩;have X1 := Hd (box_kept b1);have B1 := Hd (box_below b1);clear b1 RG B0;have FB := Lib.fresh_isBuilder 217 5 w1
 have bA : Below w1.heap.size w1 (w1.alloc (.cells #[.pointer none, .slice none 0 0] 217)) := below_made _ _;have XA := Hd ((bA.block _ (zl X1.out)).trans X1.out);have y0 := cl XA.out 0 rfl;have FBH := Hd FB;have BA := Hd bA;clear FB bA;go_wp2_with fail;refine (bwrite_any w1.heap.size w1.heap.size [] ⟨#[1]⟩ _ FBH.out (by decide) BA.out.size).mono ?_;rintro e w2 ⟨rfl, h2, b2⟩
 have I2 : Lib.IsBuilder 217 5 w1.heap.size w1.heap.size (Lib.byteCells (encJ K V 0)) w2 := by
  rw [List.nil_append, Lib.strCells_eq] at h2;exact .inr h2
 have B2 := Hd (BA.out.trans b2);have I2H := Hd I2
 have z1 : w2.cell? ⟨w.heap.size, 1, none⟩ = some (.slice ak lk ck) := by
  have X2 := (B2.out.block _ (zl X1.out)).trans X1.out;rw [cob X2]; rfl
 clear h2 b2 I2 y0;go_wp2_with fail
 go_loopw [26] (fun i wr => ∃ j : Nat, j ≤ lk ∧ i = .int .i64 (j : Int) ∧ Below w1.heap.size w1 wr ∧ Lib.IsBuilder 217 5 w1.heap.size w1.heap.size (Lib.byteCells (encJ K V j)) wr) (fun i _ => lk + 1 - (intOf i).toNat)
 case atStart => exact ⟨0, Nat.zero_le _, rfl, B2.out, I2H.out⟩
 case round =>
  obtain ⟨j, hj, rfl, hb, hI⟩ := hrel;have HB := Hd hb;have HI := Hd hI;clear hI
  by_cases hlt : j < lk
  ·have hji : (j : Int) < (lk : Int) := by omega
   have hjl : j < (K.map ukey).length := by rw [List.length_map]; omega
   have hjv : j < (V.map Value.string).length := by rw [List.length_map]; omega
   obtain ⟨b, off, rfl, hbl, zk0⟩ := HK0.at j hjl;obtain ⟨b', off', rfl, hbl', zv0⟩ := HV0.at j hjv;have zk := (hb.cell (p := ⟨b, off + j, none⟩) (Nat.lt_of_lt_of_le hbl B1.out.size)).trans ((B1.out.cell (p := ⟨b, off + j, none⟩) hbl).trans zk0);have zv1 := (B1.out.cell (p := ⟨b', off' + j, none⟩) hbl').trans zv0;have e1 : (K.map ukey)[j] = .int .u64 (K.getD j 0) := by rw [List.getElem_map, List.getD_eq_getElem?_getD, List.getElem?_eq_getElem (by omega)]; rfl
   have e2 : (V.map Value.string)[j] = .string (V.getD j ByteArray.empty) := by rw [List.getElem_map, List.getD_eq_getElem?_getD, List.getElem?_eq_getElem (by omega)]; rfl
   rw [e1] at zk;rw [e2] at zv1;have ZV1 := Hd zv1
   have hkj : 0 ≤ K.getD j 0 := by
    rw [List.getD_eq_getElem?_getD, List.getElem?_eq_getElem (by omega)];exact (HKB.out _ (List.getElem_mem _)).1
   have hle := HLE.out j;have hp8 := putL_le (K.getD j 0);have ht8 := textL_le (V.getD j ByteArray.empty);have ES : Hid (encJ K V (j + 1) = encJ K V j ++ putL (K.getD j 0) 8 ++ (textL (V.getD j ByteArray.empty)).data.toList) := Hd rfl;clear e1 e2 zk0 zv0 zv1;generalize K.getD j 0 = kx at *;generalize V.getD j ByteArray.empty = vx at *;have XR := (hb.block _ (zl X1.out)).trans X1.out;have XRH := Hd XR;clear XR hb;go_wp2_with fail;refine (number_is kx 8 _ _ hkj rfl).mono ?_;rintro e w3 ⟨rfl, b3⟩;have I3 := Hd (bld_below HI.out b3);have B3 := Hd (chain HB.out b3)
   clear b3 zk hbl;go_wp2_with fail;refine (bwrite_any w1.heap.size w1.heap.size _ _ _ I3.out (by rw [Lib.byteCells_length, Str_size]; omega) B3.out.size).mono ?_;rintro e w4 ⟨rfl, h4, b4⟩;have B4 := Hd (B3.out.trans b4)
   have I4 : Hid (Lib.IsBuilder 217 5 w1.heap.size w1.heap.size (Lib.byteCells (encJ K V j ++ putL kx 8)) w4) := Hd (by
    rw [Lib.strCells_eq, Str_list, ← Lib.byteCells_append] at h4;exact .inr h4)
   have X4 := (B4.out.block _ (zl X1.out)).trans X1.out;have u0 := cl X4 0 rfl;have u2 := cl X4 2 rfl;clear X4 h4 b4;have zv4 : w4.cell? ⟨b', off' + j, none⟩ = some (.string vx) := (B4.out.cell (p := ⟨b', off' + j, none⟩) (Nat.lt_of_lt_of_le hbl' B1.out.size)).trans ZV1.out;go_wp2_with fail;refine (text_any vx _).mono ?_;rintro e w5 ⟨rfl, b5⟩;have I5 := Hd (bld_below I4.out b5);have B5 := Hd (chain B4.out b5);clear b5 zv4 u0 u2;go_wp2_with fail
   refine (bwrite_any w1.heap.size w1.heap.size _ _ _ I5.out (by rw [Lib.byteCells_length, List.length_append]; omega) B5.out.size).mono ?_;rintro e w6 ⟨rfl, h6, b6⟩;have B6 := Hd (B5.out.trans b6)
   have I6 : Hid (Lib.IsBuilder 217 5 w1.heap.size w1.heap.size (Lib.byteCells (encJ K V (j + 1))) w6) := Hd (by
    rw [Lib.strCells_eq, ← Lib.byteCells_append] at h6;rw [ES.out];exact .inr h6)
   clear h6 b6;go_wp2_with fail;go_roundw
   case rel => exact ⟨j + 1, by omega, by go_num, B6.out, I6.out⟩
   case measure => simp [intOf]; omega
  ·obtain rfl : j = lk := by omega
   have hji : ¬ (j : Int) < (j : Int) := by omega
   clear hb;go_wp2_with fail;refine (Tryz.Builder_String_any w1.heap.size w1.heap.size _ _ HI.out HB.out.size).mono ?_;rintro e w3 ⟨rfl, b3⟩;go_wp2_with fail;go_ret2;exact ⟨rfl, chain B1.out (HB.out.trans b3)⟩
def riseB (K : List Int) : Bool := (List.range (K.length - 1)).all fun i => decide (K.getD i 0 < K.getD (i + 1) 0)
theorem riseB_iff (K : List Int) : riseB K = true ↔ ∀ i (h : i + 1 < K.length), K[i] < K[i + 1] := by
 unfold riseB;rw [List.all_eq_true];constructor
 ·intro h i hi
  have := h i (List.mem_range.2 (by omega));rw [decide_eq_true_eq, List.getD_eq_getElem?_getD, List.getD_eq_getElem?_getD, List.getElem?_eq_getElem (by omega), List.getElem?_eq_getElem hi] at this;exact this
 ·intro h i hi
  have hi' := List.mem_range.1 hi;rw [decide_eq_true_eq, List.getD_eq_getElem?_getD, List.getD_eq_getElem?_getD, List.getElem?_eq_getElem (by omega), List.getElem?_eq_getElem (by omega)];exact h i (by omega)
def plainB (n : Nod) : Bool := riseB n.K && n.V.all (fun v => decide (v.size ≤ 40)) && n.C.all fun c => decide (2 ≤ c ∧ c < 640)
theorem plainB_iff (n : Nod) : plainB n = true ↔ (∀ i (h : i + 1 < n.K.length), n.K[i] < n.K[i + 1]) ∧ (∀ v ∈ n.V, v.size ≤ 40) ∧ ∀ c ∈ n.C, 2 ≤ c ∧ c < 640 := by
 unfold plainB;rw [Bool.and_eq_true, Bool.and_eq_true, riseB_iff, List.all_eq_true, List.all_eq_true];simp only [decide_eq_true_eq, and_assoc]
def rightN (n : Nod) : Bool := plainB n && wholeB n && (!n.leaf || decide (0 < n.K.length)) && decide (sizeN n ≤ 240)
theorem rightN_iff (n : Nod) : rightN n = true ↔ plainB n = true ∧ wholeB n = true ∧ (n.leaf = true → 0 < n.K.length) ∧ sizeN n ≤ 240 := by
 unfold rightN;rw [Bool.and_eq_true, Bool.and_eq_true, Bool.and_eq_true, decide_eq_true_eq]
 cases n.leaf <;> simp [and_assoc]
def encBr (K C : List Int) : Nat → List UInt8
 | 0 => 2 :: putL (C.getD 0 0) 2
 | j + 1 => encBr K C j ++ putL (K.getD j 0) 8 ++ putL (C.getD (j + 1) 0) 2
def encN (n : Nod) : ByteArray := if n.leaf then Str (encJ n.K n.V n.K.length) else Str (encBr n.K n.C n.K.length)
def tailL : List Int → List ByteArray → ByteArray
 | k :: K, v :: V => Str (putL k 8) ++ (textL v ++ tailL K V)
 | _, _ => ⟨#[]⟩
def tailB : List Int → List Int → ByteArray
 | k :: K, c :: C => Str (putL k 8) ++ (Str (putL c 2) ++ tailB K C)
 | _, _ => ⟨#[]⟩
def rdLeaf : Nat → ByteArray → List Int × List ByteArray × Bool
 | 0, _ => ([], [], false)
 | f + 1, s => if s.size = 0 then ([], [], false) else
  (takeN s 8 :: (rdLeaf f (ttR (takeR s 8))).1, ttS (takeR s 8) :: (rdLeaf f (ttR (takeR s 8))).2.1, (decide (takeE s 8 ≠ 0) || decide (ttE (takeR s 8) ≠ 0)) || (rdLeaf f (ttR (takeR s 8))).2.2)
def rdBr : Nat → ByteArray → List Int × List Int × Bool
 | 0, _ => ([], [], false)
 | f + 1, s => if s.size = 0 then ([], [], false) else
  (takeN s 8 :: (rdBr f (takeR (takeR s 8) 2)).1, takeN (takeR s 8) 2 :: (rdBr f (takeR (takeR s 8) 2)).2.1, (decide (takeE s 8 ≠ 0) || decide (takeE (takeR s 8) 2 ≠ 0)) || (rdBr f (takeR (takeR s 8) 2)).2.2)
def rdN (s : ByteArray) : Option (Nod × Bool) :=
 if s.extract 0 1 = ⟨#[1]⟩ then some (⟨true, (rdLeaf s.size (s.extract 1 s.size)).1, (rdLeaf s.size (s.extract 1 s.size)).2.1, []⟩, (rdLeaf s.size (s.extract 1 s.size)).2.2)
 else if s.extract 0 1 = ⟨#[2]⟩ then some (⟨false, (rdBr s.size (takeR (s.extract 1 s.size) 2)).1, [], takeN (s.extract 1 s.size) 2 :: (rdBr s.size (takeR (s.extract 1 s.size) 2)).2.1⟩, decide (takeE (s.extract 1 s.size) 2 ≠ 0) || (rdBr s.size (takeR (s.extract 1 s.size) 2)).2.2)
 else none
def decN (s : ByteArray) : Option Nod :=
 if s.size = 0 ∨ 240 < s.size then none else
 match rdN s with
 | some (n, bad) => if (!bad && rightN n) = true then some n else none
 | none => none
theorem takeE_0 {s : ByteArray} {k : Int} : takeE s k = 0 ↔ takeOk s k = true := by
 unfold takeE
 split
 ·simp [*]
 ·split <;> simp [*]
theorem ttE_0 {s : ByteArray} : ttE s = 0 ↔ ttOk s = true := by
 unfold ttE
 split <;> simp [*]
theorem takeR_le (s : ByteArray) (k : Int) : (takeR s k).size ≤ s.size := by
 unfold takeR; split
 ·rw [ByteArray.size_extract]; omega
 ·exact Nat.zero_le _
theorem takeR_lt (s : ByteArray) (h : s.size ≠ 0) {k : Int} (h1 : 1 ≤ k) : (takeR s k).size < s.size := by
 unfold takeR; split
 ·rw [ByteArray.size_extract]; omega
 ·exact Nat.pos_of_ne_zero h
theorem ttR_le (s : ByteArray) : (ttR s).size ≤ s.size := by
 unfold ttR; split
 ·have h : (ttB s).size ≤ s.size := by unfold ttB; rw [ByteArray.size_extract]; omega
  rw [ByteArray.size_extract]; omega
 ·exact Nat.zero_le _
theorem ttS_le (s : ByteArray) : (ttS s).size ≤ 255 := by
 cases h : ttOk s with
 | true => have := tt_back s h; omega
 | false => rw [(tt_no s h).1]; exact Nat.zero_le _
theorem take_rng8 (s : ByteArray) : 0 ≤ takeN s 8 ∧ takeN s 8 ≤ 18446744073709551615 := by
 have h := pt_room s (k := 8) (by decide) (by decide);have h2 := putOk_lt h.2 h.1;have e : (256 : Nat) ^ (8 : Int).toNat = 18446744073709551616 := by decide
 rw [e] at h2;omega
theorem take_rng2 (s : ByteArray) : 0 ≤ takeN s 2 ∧ takeN s 2 ≤ 65535 := by
 have h := pt_room s (k := 2) (by decide) (by decide);have h2 := putOk_lt h.2 h.1;have e : (256 : Nat) ^ (2 : Int).toNat = 65536 := by decide
 rw [e] at h2;omega
theorem takeOk_room {s : ByteArray} {k : Int} (h : takeOk s k = true) : k ≤ s.size := by
 unfold takeOk at h; simp at h; omega
theorem rdLeaf_facts : ∀ (f : Nat) (s : ByteArray), (rdLeaf f s).1.length = (rdLeaf f s).2.1.length ∧ (rdLeaf f s).1.length ≤ f ∧ (rdLeaf f s).1.length ≤ s.size ∧ (∀ x ∈ (rdLeaf f s).1, 0 ≤ x ∧ x ≤ 18446744073709551615) ∧ (∀ v ∈ (rdLeaf f s).2.1, v.size ≤ 255) ∧ (s.size ≤ f → (rdLeaf f s).2.2 = false → tailL (rdLeaf f s).1 (rdLeaf f s).2.1 = s) := by
 intro f
 induction f with
 | zero =>
  intro s;refine ⟨rfl, Nat.le_refl _, Nat.zero_le _, by simp [rdLeaf], by simp [rdLeaf], fun h _ => ?_⟩;exact (empty_of_size (by omega)).symm
 | succ f ih =>
  intro s;unfold rdLeaf
  by_cases h0 : s.size = 0
  ·rw [if_pos h0]
   exact ⟨rfl, Nat.zero_le _, Nat.zero_le _, by simp, by simp, fun h _ => (empty_of_size h0).symm⟩
  ·rw [if_neg h0]
   obtain ⟨i1, i2, i3, i4, i5, i6⟩ := ih (ttR (takeR s 8));have l1 := takeR_lt s h0 (k := 8) (by decide);have l2 := ttR_le (takeR s 8);refine ⟨by simp [i1], by simp; omega, by simp; omega, ?_, ?_, ?_⟩
   ·intro x hx
    rcases List.mem_cons.1 hx with rfl | hx
    ·exact take_rng8 s
    ·exact i4 x hx
   ·intro v hv
    rcases List.mem_cons.1 hv with rfl | hv
    ·exact ttS_le _
    ·exact i5 v hv
   ·intro hf hb
    simp only [Bool.or_eq_false_iff, decide_eq_false_iff_not, Decidable.not_not, ne_eq] at hb;obtain ⟨⟨e1, e2⟩, e3⟩ := hb;have t1 := pt_back s (k := 8) (by decide) (by decide) (takeOk_room (takeE_0.1 e1));have t2 := tt_back (takeR s 8) (ttE_0.1 e2)
    show Str (putL (takeN s 8) 8) ++ (textL (ttS (takeR s 8)) ++ tailL _ _) = s
    rw [i6 (by omega) e3, t2.1, t1.1]
theorem rdBr_facts : ∀ (f : Nat) (s : ByteArray), (rdBr f s).1.length = (rdBr f s).2.1.length ∧ (rdBr f s).1.length ≤ f ∧ (rdBr f s).1.length ≤ s.size ∧ (∀ x ∈ (rdBr f s).1, 0 ≤ x ∧ x ≤ 18446744073709551615) ∧ (∀ v ∈ (rdBr f s).2.1, 0 ≤ v ∧ v ≤ 65535) ∧ (s.size ≤ f → (rdBr f s).2.2 = false → tailB (rdBr f s).1 (rdBr f s).2.1 = s) := by
 intro f
 induction f with
 | zero =>
  intro s;refine ⟨rfl, Nat.le_refl _, Nat.zero_le _, by simp [rdBr], by simp [rdBr], fun h _ => ?_⟩;exact (empty_of_size (by omega)).symm
 | succ f ih =>
  intro s;unfold rdBr
  by_cases h0 : s.size = 0
  ·rw [if_pos h0]
   exact ⟨rfl, Nat.zero_le _, Nat.zero_le _, by simp, by simp, fun h _ => (empty_of_size h0).symm⟩
  ·rw [if_neg h0]
   obtain ⟨i1, i2, i3, i4, i5, i6⟩ := ih (takeR (takeR s 8) 2);have l1 := takeR_lt s h0 (k := 8) (by decide);have l2 := takeR_le (takeR s 8) 2;refine ⟨by simp [i1], by simp; omega, by simp; omega, ?_, ?_, ?_⟩
   ·intro x hx
    rcases List.mem_cons.1 hx with rfl | hx
    ·exact take_rng8 s
    ·exact i4 x hx
   ·intro v hv
    rcases List.mem_cons.1 hv with rfl | hv
    ·exact take_rng2 _
    ·exact i5 v hv
   ·intro hf hb
    simp only [Bool.or_eq_false_iff, decide_eq_false_iff_not, Decidable.not_not, ne_eq] at hb;obtain ⟨⟨e1, e2⟩, e3⟩ := hb;have t1 := pt_back s (k := 8) (by decide) (by decide) (takeOk_room (takeE_0.1 e1));have t2 := pt_back (takeR s 8) (k := 2) (by decide) (by decide) (takeOk_room (takeE_0.1 e2))
    show Str (putL (takeN s 8) 8) ++ (Str (putL (takeN (takeR s 8) 2) 2) ++ tailB _ _) = s
    rw [i6 (by omega) e3, t2.1, t1.1]
theorem put8 {k : Int} (h : 0 ≤ k ∧ k ≤ 18446744073709551615) : putOk k 8 = true := by
 obtain ⟨m, rfl⟩ := Int.eq_ofNat_of_zero_le h.1;exact (putOk_nat m 8).2 ⟨by decide, by decide, by show m < 18446744073709551616; omega⟩
theorem put2 {k : Int} (h : 0 ≤ k ∧ k ≤ 65535) : putOk k 2 = true := by
 obtain ⟨m, rfl⟩ := Int.eq_ofNat_of_zero_le h.1;exact (putOk_nat m 2).2 ⟨by decide, by decide, by show m < 65536; omega⟩
theorem pt_e {n k : Int} (rest : ByteArray) (h : putOk n k = true) : takeE (Str (putL n k) ++ rest) k = 0 := by
 rw [takeE_0];have := pt_size h;unfold takeOk;simp [putOk] at h;rw [ByteArray.size_append, Bool.and_eq_true, decide_eq_true_eq, decide_eq_true_eq];omega
theorem rdLeaf_tail : ∀ (K : List Int) (V : List ByteArray) (f : Nat), K.length = V.length → K.length ≤ f → (∀ x ∈ K, 0 ≤ x ∧ x ≤ 18446744073709551615) → (∀ v ∈ V, v.size ≤ 255) → rdLeaf f (tailL K V) = (K, V, false) := by
 intro K
 induction K with
 | nil =>
  intro V f h1 h2 h3 h4;have : V = [] := List.eq_nil_of_length_eq_zero (by simpa using h1.symm);subst this
  cases f <;> rfl
 | cons k K ih =>
  intro V f h1 h2 h3 h4
  cases V with
  | nil => simp at h1
  | cons v V =>
   cases f with
   | zero => simp at h2
   | succ f =>
    have p8 := put8 (h3 k (by simp));have hs := pt_size p8;have e1 := pt_n (textL v ++ tailL K V) (h3 k (by simp)).1 p8;have e2 := pt_e (textL v ++ tailL K V) p8;have e3 := tt_text v (tailL K V) (h4 v (by simp));have ih' := ih V f (by simpa using h1) (by simpa using h2) (fun x hx => h3 x (by simp [hx])) (fun x hx => h4 x (by simp [hx]));unfold tailL rdLeaf;rw [if_neg (by rw [ByteArray.size_append]; omega), e1.1, e1.2, e2, e3.1, e3.2.1, e3.2.2, ih']
    rfl
theorem rdBr_tail : ∀ (K C : List Int) (f : Nat), K.length = C.length → K.length ≤ f → (∀ x ∈ K, 0 ≤ x ∧ x ≤ 18446744073709551615) → (∀ v ∈ C, 0 ≤ v ∧ v ≤ 65535) → rdBr f (tailB K C) = (K, C, false) := by
 intro K
 induction K with
 | nil =>
  intro V f h1 h2 h3 h4;have : V = [] := List.eq_nil_of_length_eq_zero (by simpa using h1.symm);subst this
  cases f <;> rfl
 | cons k K ih =>
  intro V f h1 h2 h3 h4
  cases V with
  | nil => simp at h1
  | cons v V =>
   cases f with
   | zero => simp at h2
   | succ f =>
    have p8 := put8 (h3 k (by simp));have p2 := put2 (h4 v (by simp));have hs := pt_size p8;have e1 := pt_n (Str (putL v 2) ++ tailB K V) (h3 k (by simp)).1 p8;have e2 := pt_e (Str (putL v 2) ++ tailB K V) p8;have e3 := pt_n (tailB K V) (h4 v (by simp)).1 p2;have e4 := pt_e (tailB K V) p2;have ih' := ih V f (by simpa using h1) (by simpa using h2) (fun x hx => h3 x (by simp [hx])) (fun x hx => h4 x (by simp [hx]));unfold tailB rdBr;rw [if_neg (by rw [ByteArray.size_append]; omega), e1.1, e1.2, e2, e3.1, e3.2, e4, ih']
    rfl
theorem tailL_snoc : ∀ (K : List Int) (V : List ByteArray) (k : Int) (v : ByteArray), K.length = V.length → tailL (K ++ [k]) (V ++ [v]) = tailL K V ++ (Str (putL k 8) ++ textL v) := by
 intro K
 induction K with
 | nil =>
  intro V k v h;have : V = [] := List.eq_nil_of_length_eq_zero (by simpa using h.symm);subst this;apply eq_of_data;simp [tailL, append_list]
 | cons a K ih =>
  intro V k v h
  cases V with
  | nil => simp at h
  | cons b V =>
   show Str (putL a 8) ++ (textL b ++ tailL (K ++ [k]) (V ++ [v])) = _
   rw [ih V k v (by simpa using h)];apply eq_of_data;simp [tailL, append_list]
theorem tailB_snoc : ∀ (K C : List Int) (k c : Int), K.length = C.length → tailB (K ++ [k]) (C ++ [c]) = tailB K C ++ (Str (putL k 8) ++ Str (putL c 2)) := by
 intro K
 induction K with
 | nil =>
  intro V k v h;have : V = [] := List.eq_nil_of_length_eq_zero (by simpa using h.symm);subst this;apply eq_of_data;simp [tailB, append_list]
 | cons a K ih =>
  intro V k v h
  cases V with
  | nil => simp at h
  | cons b V =>
   show Str (putL a 8) ++ (Str (putL b 2) ++ tailB (K ++ [k]) (V ++ [v])) = _
   rw [ih V k v (by simpa using h)];apply eq_of_data;simp [tailB, append_list]
theorem encJ_tail (K : List Int) (V : List ByteArray) (h : K.length = V.length) : ∀ j, j ≤ K.length → Str (encJ K V j) = Str [1] ++ tailL (K.take j) (V.take j) := by
 intro j
 induction j with
 | zero => intro _; apply eq_of_data; simp [encJ, tailL, append_list, Str_list]
 | succ j ih =>
  intro hj;have e1 : K.take (j + 1) = K.take j ++ [K[j]] := List.take_succ_eq_append_getElem (by omega);have e2 : V.take (j + 1) = V.take j ++ [V[j]] := List.take_succ_eq_append_getElem (by omega);rw [e1, e2, tailL_snoc _ _ _ _ (by simp; omega)];have hi := congrArg (fun b : ByteArray => b.data.toList) (ih (by omega));simp only [Str_list, append_list] at hi;apply eq_of_data;simp only [encJ, append_list, Str_list, hi, List.append_assoc];rw [List.getD_eq_getElem?_getD, List.getElem?_eq_getElem (by omega), List.getD_eq_getElem?_getD, List.getElem?_eq_getElem (by omega)]
  rfl
theorem encBr_tail (K C : List Int) (h : C.length = K.length + 1) : ∀ j, j ≤ K.length → Str (encBr K C j) = Str [2] ++ (Str (putL (C.getD 0 0) 2) ++ tailB (K.take j) (C.tail.take j)) := by
 intro j
 induction j with
 | zero => intro _; apply eq_of_data; simp [encBr, tailB, append_list, Str_list]
 | succ j ih =>
  intro hj;have e1 : K.take (j + 1) = K.take j ++ [K[j]] := List.take_succ_eq_append_getElem (by omega);have hl : j < C.tail.length := by simp; omega
  have e2 : C.tail.take (j + 1) = C.tail.take j ++ [C.tail[j]] := List.take_succ_eq_append_getElem hl;have e3 : C.tail[j] = C.getD (j + 1) 0 := by rw [List.getElem_tail, List.getD_eq_getElem?_getD, List.getElem?_eq_getElem (by omega)]; rfl
  rw [e1, e2, tailB_snoc _ _ _ _ (by simp; omega), e3];have hi := congrArg (fun b : ByteArray => b.data.toList) (ih (by omega));simp only [Str_list, append_list] at hi;apply eq_of_data;simp only [encBr, append_list, Str_list, hi, List.append_assoc];rw [List.getD_eq_getElem?_getD (l := K), List.getElem?_eq_getElem (by omega)]
  rfl
theorem enc_leaf_eq (K : List Int) (V : List ByteArray) (h : K.length = V.length) : encN ⟨true, K, V, []⟩ = Str [1] ++ tailL K V := by
 have := encJ_tail K V h K.length (Nat.le_refl _);rw [List.take_length, h, List.take_length] at this;unfold encN;simp only [if_true];rw [h]; exact this
theorem enc_branch_eq (K C : List Int) (c : Int) (h : K.length = C.length) : encN ⟨false, K, [], c :: C⟩ = Str [2] ++ (Str (putL c 2) ++ tailB K C) := by
 have := encBr_tail K (c :: C) (by simp [h]) K.length (Nat.le_refl _);rw [List.take_length, List.tail_cons, h, List.take_length] at this;unfold encN;simp only [Bool.false_eq_true, if_false];rw [h]; exact this
theorem first_byte (b : UInt8) (t : ByteArray) : (Str [b] ++ t).extract 0 1 = ⟨#[b]⟩ ∧ (Str [b] ++ t).extract 1 (Str [b] ++ t).size = t := by
 have e : (Str [b]).size = 1 := rfl;refine ⟨?_, ?_⟩
 ·have := extract_left (Str [b]) t
  rw [e] at this; exact this
 ·have := extract_right' (Str [b]) t
  rw [e] at this; exact this
theorem first_of (s : ByteArray) (b : UInt8) (h : s.extract 0 1 = ⟨#[b]⟩) : s = Str [b] ++ s.extract 1 s.size := by
 have h1 := take_extract s 1
 have h2 : Str (s.data.toList.take 1) = ⟨#[b]⟩ := by
  rw [← h]; apply eq_of_data; rw [extract_list, Str_list, List.drop_zero, Nat.sub_zero]
 rw [h2] at h1;exact h1.symm
theorem enc_size (n : Nod) (hw : wholeB n = true) (ho : NodOk n) (hv : ∀ v ∈ n.V, v.size ≤ 40) (hc : ∀ c ∈ n.C, 2 ≤ c ∧ c < 640) : (encN n).size = sizeN n := by
 obtain ⟨lf, K, V, C⟩ := n
 cases lf with
 | true =>
  have h := (wholeB_leaf (n := ⟨true, K, V, C⟩) rfl).1 hw;have hC : C = [] := List.eq_nil_of_length_eq_zero h.2;subst hC;rw [enc_leaf_eq K V h.1.symm, ByteArray.size_append]
  have : ∀ (K : List Int) (V : List ByteArray), K.length = V.length → (∀ x ∈ K, 0 ≤ x ∧ x ≤ 18446744073709551615) → (∀ v ∈ V, v.size ≤ 40) → (tailL K V).size = 9 * K.length + bytesV V := by
   intro K
   induction K with
   | nil => intro V h _ _; have : V = [] := List.eq_nil_of_length_eq_zero (by simpa using h.symm); subst this; rfl
   | cons k K ih =>
    intro V h h3 h4
    cases V with
    | nil => simp at h
    | cons v V =>
     have := ih V (by simpa using h) (fun x hx => h3 x (by simp [hx])) (fun x hx => h4 x (by simp [hx]));have e8 := pt_size (put8 (h3 k (by simp)));have et := textL_size1 v (by have := h4 v (by simp); omega);simp only [tailL, ByteArray.size_append, this, bytesV, List.length_cons];omega
  rw [this K V h.1.symm ho.kb hv];unfold sizeN;simp only [if_true]
  show 1 + _ = _
  omega
 | false =>
  have h := (wholeB_branch (n := ⟨false, K, V, C⟩) rfl).1 hw;have hV : V = [] := List.eq_nil_of_length_eq_zero h.2;subst hV
  cases C with
  | nil => simp at h
  | cons c C =>
   have h1 : K.length = C.length := by have := h.1; simp at this; omega
   rw [enc_branch_eq K C c h1, ByteArray.size_append, ByteArray.size_append]
   have : ∀ (K C : List Int), K.length = C.length → (∀ x ∈ K, 0 ≤ x ∧ x ≤ 18446744073709551615) → (∀ v ∈ C, 2 ≤ v ∧ v < 640) → (tailB K C).size = 10 * K.length := by
    intro K
    induction K with
    | nil => intro V h _ _; have : V = [] := List.eq_nil_of_length_eq_zero (by simpa using h.symm); subst this; rfl
    | cons k K ih =>
     intro V h h3 h4
     cases V with
     | nil => simp at h
     | cons v V =>
      have := ih V (by simpa using h) (fun x hx => h3 x (by simp [hx])) (fun x hx => h4 x (by simp [hx]));have e8 := pt_size (put8 (h3 k (by simp)));have e2 := pt_size (put2 (k := v) (by have := h4 v (by simp); omega));simp only [tailB, ByteArray.size_append, this, List.length_cons];omega
   rw [this K C h1 ho.kb (fun v hv => hc v (by simp [hv]))];have e2 := pt_size (put2 (k := c) (by have := hc c (by simp); omega));unfold sizeN;simp only [Bool.false_eq_true, if_false, List.length_cons]
   show 1 + _ = _
   omega
theorem dec_enc (n : Nod) (ho : NodOk n) (hr : rightN n = true) : decN (encN n) = some n := by
 have hr' := hr;rw [rightN_iff] at hr';obtain ⟨hp, hw, h0, hz⟩ := hr';rw [plainB_iff] at hp;obtain ⟨p1, p2, p3⟩ := hp;have hs := enc_size n hw ho p2 p3;obtain ⟨lf, K, V, C⟩ := n
 cases lf with
 | true =>
  have h := (wholeB_leaf (n := ⟨true, K, V, C⟩) rfl).1 hw;have hC : C = [] := List.eq_nil_of_length_eq_zero h.2;subst hC;have hk : K.length ≤ sizeN ⟨true, K, V, []⟩ := by unfold sizeN; simp only [if_true]; omega
  have hk0 : 0 < sizeN ⟨true, K, V, []⟩ := by unfold sizeN; simp only [if_true]; omega
  have hrd : rdN (encN ⟨true, K, V, []⟩) = some (⟨true, K, V, []⟩, false) := by
   rw [← hs] at hk;rw [enc_leaf_eq K V h.1.symm] at hk ⊢;have hf := first_byte 1 (tailL K V);unfold rdN;rw [if_pos hf.1, hf.2, rdLeaf_tail K V _ h.1.symm hk ho.kb (fun v hv => by have := p2 v hv; omega)]
  unfold decN;rw [if_neg (by omega), hrd]
  show (if (!false && rightN ⟨true, K, V, []⟩) = true then some (⟨true, K, V, []⟩ : Nod) else none) = _
  rw [hr]; rfl
 | false =>
  have h := (wholeB_branch (n := ⟨false, K, V, C⟩) rfl).1 hw;have hV : V = [] := List.eq_nil_of_length_eq_zero h.2;subst hV
  cases C with
  | nil => simp at h
  | cons c C =>
   have h1 : K.length = C.length := by have := h.1; simp at this; omega
   have hk : K.length ≤ sizeN ⟨false, K, [], c :: C⟩ := by unfold sizeN; simp only [Bool.false_eq_true, if_false]; omega
   have hk0 : 0 < sizeN ⟨false, K, [], c :: C⟩ := by unfold sizeN; simp only [Bool.false_eq_true, if_false]; omega
   have p2' := put2 (k := c) (by have := p3 c (by simp); omega)
   have hrd : rdN (encN ⟨false, K, [], c :: C⟩) = some (⟨false, K, [], c :: C⟩, false) := by
    rw [← hs] at hk;rw [enc_branch_eq K C c h1] at hk ⊢;have hf := first_byte 2 (Str (putL c 2) ++ tailB K C);have hn := pt_n (tailB K C) (by have := p3 c (by simp); omega) p2';have he := pt_e (tailB K C) p2';unfold rdN;rw [if_neg (by rw [hf.1]; decide), if_pos hf.1, hf.2, hn.1, hn.2, he, rdBr_tail K C _ h1 hk ho.kb (fun v hv => by have := p3 v (by simp [hv]); omega)]
    rfl
   unfold decN;rw [if_neg (by omega), hrd]
   show (if (!false && rightN ⟨false, K, [], c :: C⟩) = true then some (⟨false, K, [], c :: C⟩ : Nod) else none) = _
   rw [hr]; rfl
theorem enc_dec (s : ByteArray) (n : Nod) (h : decN s = some n) : encN n = s ∧ rightN n = true ∧ NodOk n := by
 unfold decN at h
 split at h
 ·cases h
 ·rename_i hsz
  split at h
  ·rename_i m bad hrd
   split at h
   ·rename_i hb
    obtain rfl := Option.some.inj h;rw [Bool.and_eq_true, Bool.not_eq_true'] at hb;obtain ⟨rfl, hr⟩ := hb;refine ⟨?_, hr, ?_⟩
    all_goals
     unfold rdN at hrd
     split at hrd
     ·rename_i h1
      obtain ⟨e1, e2⟩ := Prod.mk.inj (Option.some.inj hrd);obtain ⟨i1, i2, i3, i4, i5, i6⟩ := rdLeaf_facts s.size (s.extract 1 s.size);have hle : (s.extract 1 s.size).size ≤ s.size := by rw [ByteArray.size_extract]; omega
      subst e1
      first
       | exact (enc_leaf_eq _ _ i1).trans ((congrArg (Str [1] ++ ·) (i6 hle e2)).trans (first_of s 1 h1).symm)
       | exact ⟨by dsimp only; omega, by dsimp only; omega, Nat.zero_le _, i4, fun v hv => by have := i5 v hv; omega, fun x hx => by cases hx⟩
     ·split at hrd
      ·rename_i h0 h1
       obtain ⟨e1, e2⟩ := Prod.mk.inj (Option.some.inj hrd);obtain ⟨i1, i2, i3, i4, i5, i6⟩ := rdBr_facts s.size (takeR (s.extract 1 s.size) 2);have hle : (s.extract 1 s.size).size ≤ s.size := by rw [ByteArray.size_extract]; omega
       have hle2 := takeR_le (s.extract 1 s.size) 2;simp only [Bool.or_eq_false_iff, decide_eq_false_iff_not, ne_eq, Decidable.not_not] at e2;have t2 := pt_back (s.extract 1 s.size) (k := 2) (by decide) (by decide) (takeOk_room (takeE_0.1 e2.1));subst e1
       first
        | exact (enc_branch_eq _ _ _ i1).trans ((congrArg (fun t => Str [2] ++ (Str (putL (takeN (s.extract 1 s.size) 2) 2) ++ t)) (i6 (by omega) e2.2)).trans ((congrArg (Str [2] ++ ·) t2.1).trans (first_of s 2 h1).symm))
        | exact ⟨by dsimp only; omega, Nat.zero_le _, by simp only [List.length_cons]; omega, i4, (fun v hv => by cases hv), fun x hx => by
          rcases List.mem_cons.1 hx with rfl | hx
          ·have := take_rng2 (s.extract 1 s.size); omega
          ·have := i5 x hx; omega⟩
      ·cases hrd
   ·cases h
  ·cases h
end Go.Proofs.YtmomlhiokggfbaaGreatDoor
