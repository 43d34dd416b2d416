/-
  Package node: ahead, behind, leastToSplit, share on nodes as lists.
-/
import Derived.Test.YtkdcoipbdkmieaaNodeA
import Derived.Test.YtkdcoipbdkmieaaNodeW
namespace Go.Proofs.Ytkdcoipbdkmieaa
open Go.RowKit
set_option linter.unusedVariables false
set_option linter.unusedSimpArgs false
def aheadN (n : Nod) (p : Nat) : Nod := if n.leaf then { leaf := true, K := n.K.take p, V := n.V.take p, C := [] } else { leaf := false, K := n.K.take p, V := [], C := n.C.take (p + 1) }
def behindN (n : Nod) (p : Nat) : Nod := if n.leaf then { leaf := true, K := n.K.drop p, V := n.V.drop p, C := [] } else { leaf := false, K := n.K.drop (p + 1), V := [], C := n.C.drop (p + 1) }
def leastN (lf : Bool) : Nat := if lf then 2 else 3
def shareN (n : Nod) (i : Nat) : Nat := if n.leaf then 9 + (n.V.getD i ByteArray.empty).size else 10
theorem ahead_ok (n : Nod) (p : Nat) (ho : NodOk n) : NodOk (aheadN n p) := by
  unfold aheadN
  split
  · exact ⟨Nat.le_trans (by simp; omega) ho.k1, Nat.le_trans (by simp; omega) ho.v1, Nat.zero_le _, fun x hx => ho.kb x (List.mem_of_mem_take hx), fun x hx => ho.vb x (List.mem_of_mem_take hx), fun x hx => (by cases hx)⟩
  · exact ⟨Nat.le_trans (by simp; omega) ho.k1, Nat.zero_le _, Nat.le_trans (by simp; omega) ho.c1, fun x hx => ho.kb x (List.mem_of_mem_take hx), fun x hx => (by cases hx), fun x hx => ho.cb x (List.mem_of_mem_take hx)⟩
theorem behind_ok (n : Nod) (p : Nat) (ho : NodOk n) : NodOk (behindN n p) := by
  unfold behindN
  split
  · exact ⟨Nat.le_trans (by simp) ho.k1, Nat.le_trans (by simp) ho.v1, Nat.zero_le _, fun x hx => ho.kb x (List.mem_of_mem_drop hx), fun x hx => ho.vb x (List.mem_of_mem_drop hx), fun x hx => (by cases hx)⟩
  · exact ⟨Nat.le_trans (by simp) ho.k1, Nat.zero_le _, Nat.le_trans (by simp) ho.c1, fun x hx => ho.kb x (List.mem_of_mem_drop hx), fun x hx => (by cases hx), fun x hx => ho.cb x (List.mem_of_mem_drop hx)⟩
theorem ahead_is (n : Nod) (ak av ac : Option Addr) (ck cv cc : Nat) (w : World) (h : NodR w n ak av ac ck cv cc) (p : Nat) (hw : wholeB n = true) (hp : p ≤ n.K.length) :
    Calls Try.prog 42 #[nodV n ak av ac ck cv cc, .int .i64 (p : Int)] w fun e w' => NodBack w.heap.size (aheadN n p) e w' ∧ Below w.heap.size w w' := by
  have hok := ahead_ok n p h.ok
  have hk1 := h.ok.k1
  have hk2 := h.k2
  obtain ⟨a1, S1, R1⟩ := rd_upto h.k p ck (by simp; omega) (by simpa using hk2)
  have e1 : ((n.K.map ukey).take p).length = p := by simp; omega
  have CK := fun wx a hb ha => cat1 glues_U ((n.K.map ukey).take p) (fun u hu => one_U _ u (List.mem_of_mem_take hu)) p e1.symm (by omega) (c1 := ck) R1 wx a hb ha
  cases hl : n.leaf with
  | true =>
    have hwl := (wholeB_leaf hl).1 hw
    have hv2 := h.v2
    rw [hwl.1] at hv2
    obtain ⟨a2, S2, R2⟩ := rd_upto h.v p cv (by simp [hwl.1]; omega) (by simpa using h.v2)
    have e2 : ((n.V.map Value.string).take p).length = p := by simp [hwl.1]; omega
    have CV := fun wx a hb ha => cat1 glues_S ((n.V.map Value.string).take p) (fun u hu => one_S _ u (List.mem_of_mem_take hu)) p e2.symm (by omega) (c1 := cv) R2 wx a hb ha
    unfold nodV
    rw [hl, hwl.1]
    refine (ahead_leaf ak av ac a1 a2 ck cv cc n.K.length n.C.length p _ _ w (Lib.hid S1) (Lib.hid S2) (Lib.hid CK) (Lib.hid CV) hp hk2 hv2 hk1).mono ?_
    rintro e w' ⟨⟨x, rfl, xa, xb, xc, xd, rfl, q1, q2, q3, q4, q5, q6, q7, q8⟩, hb⟩
    have hN : aheadN n p = { leaf := true, K := n.K.take p, V := n.V.take p, C := [] } := by unfold aheadN; rw [hl]; rfl
    have eK : (aheadN n p).K.map ukey = (n.K.map ukey).take p := by rw [hN]; simp [List.map_take]
    have eV : (aheadN n p).V.map Value.string = (n.V.map Value.string).take p := by rw [hN]; simp [List.map_take]
    rw [← eK] at q1 q3
    rw [← eV] at q2 q5
    refine ⟨⟨xa, xb, none, xc, xd, 0, ?_, ⟨q1, q2, by rw [hN]; exact .inl rfl, by simpa using q3, q4, by simpa using q5, q6, by rw [hN]; exact Nat.le_refl _, Nat.zero_le _, hok⟩, q7, q8, fun x hx => by cases hx⟩, hb⟩
    unfold nodV
    rw [← eK, ← eV, hN]
    simp
  | false =>
    have hwl := (wholeB_branch hl).1 hw
    have hc2 := h.c2
    rw [hwl.1] at hc2
    obtain ⟨a2, S2, R2⟩ := rd_upto h.c (p + 1) cc (by simp [hwl.1]; omega) (by simpa using h.c2)
    have e2 : ((n.C.map ikid).take (p + 1)).length = p + 1 := by simp [hwl.1]; omega
    have CC := fun wx a hb ha => cat1 glues_I ((n.C.map ikid).take (p + 1)) (fun u hu => one_I _ u (List.mem_of_mem_take hu)) (p + 1) e2.symm (by omega) (c1 := cc) R2 wx a hb ha
    unfold nodV
    rw [hl, hwl.1]
    refine (ahead_branch ak av ac a1 a2 ck cv cc n.K.length n.V.length p _ _ w (Lib.hid S1) (Lib.hid S2) (Lib.hid CK) (Lib.hid CC) hp hk2 hc2 hk1).mono ?_
    rintro e w' ⟨⟨x, rfl, xa, xb, xc, xd, rfl, q1, q2, q3, q4, q5, q6, q7, q8⟩, hb⟩
    have hN : aheadN n p = { leaf := false, K := n.K.take p, V := [], C := n.C.take (p + 1) } := by unfold aheadN; rw [hl]; rfl
    have eK : (aheadN n p).K.map ukey = (n.K.map ukey).take p := by rw [hN]; simp [List.map_take]
    have eC : (aheadN n p).C.map ikid = (n.C.map ikid).take (p + 1) := by rw [hN]; simp [List.map_take]
    rw [← eK] at q1 q3
    rw [← eC] at q2 q5
    refine ⟨⟨xa, none, xb, xc, 0, xd, ?_, ⟨q1, by rw [hN]; exact .inl rfl, q2, by simpa using q3, q4, by rw [hN]; exact Nat.le_refl _, Nat.zero_le _, by simpa using q5, q6, hok⟩, q7, (fun x hx => by cases hx), q8⟩, hb⟩
    unfold nodV
    rw [← eK, ← eC, hN]
    simp
theorem behind_is (n : Nod) (ak av ac : Option Addr) (ck cv cc : Nat) (w : World) (h : NodR w n ak av ac ck cv cc) (p : Nat) (hw : wholeB n = true) (hp : p + 1 ≤ n.K.length) :
    Calls Try.prog 43 #[nodV n ak av ac ck cv cc, .int .i64 (p : Int)] w fun e w' => NodBack w.heap.size (behindN n p) e w' ∧ Below w.heap.size w w' := by
  have hok := behind_ok n p h.ok
  have hk1 := h.ok.k1
  have hk2 := h.k2
  cases hl : n.leaf with
  | true =>
    have hwl := (wholeB_leaf hl).1 hw
    have hv2 := h.v2
    rw [hwl.1] at hv2
    obtain ⟨a1, S1, R1⟩ := rd_from h.k p n.K.length ck (by simp) (by simp; omega) (by simpa using hk2)
    have e1 : ((n.K.map ukey).drop p).length = n.K.length - p := by simp
    have CK := fun wx a hb ha => cat1 glues_U ((n.K.map ukey).drop p) (fun u hu => one_U _ u (List.mem_of_mem_drop hu)) (n.K.length - p) e1.symm (by omega) (c1 := ck - p) R1 wx a hb ha
    obtain ⟨a2, S2, R2⟩ := rd_from h.v p n.K.length cv (by simp [hwl.1]) (by simp [hwl.1]; omega) (by simpa using h.v2)
    have e2 : ((n.V.map Value.string).drop p).length = n.K.length - p := by simp [hwl.1]
    have CV := fun wx a hb ha => cat1 glues_S ((n.V.map Value.string).drop p) (fun u hu => one_S _ u (List.mem_of_mem_drop hu)) (n.K.length - p) e2.symm (by omega) (c1 := cv - p) R2 wx a hb ha
    unfold nodV
    rw [hl, hwl.1]
    refine (behind_leaf ak av ac a1 a2 ck cv cc n.K.length n.C.length p _ _ w (Lib.hid S1) (Lib.hid S2) (Lib.hid CK) (Lib.hid CV) (by omega) hk2 hv2 hk1).mono ?_
    rintro e w' ⟨⟨x, rfl, xa, xb, xc, xd, rfl, q1, q2, q3, q4, q5, q6, q7, q8⟩, hb⟩
    have hN : behindN n p = { leaf := true, K := n.K.drop p, V := n.V.drop p, C := [] } := by unfold behindN; rw [hl]; rfl
    have eK : (behindN n p).K.map ukey = (n.K.map ukey).drop p := by rw [hN]; simp [List.map_drop]
    have eV : (behindN n p).V.map Value.string = (n.V.map Value.string).drop p := by rw [hN]; simp [List.map_drop]
    rw [← eK] at q1 q3
    rw [← eV] at q2 q5
    refine ⟨⟨xa, xb, none, xc, xd, 0, ?_, ⟨q1, q2, by rw [hN]; exact .inl rfl, by simpa using q3, q4, by simpa using q5, q6, by rw [hN]; exact Nat.le_refl _, Nat.zero_le _, hok⟩, q7, q8, fun x hx => by cases hx⟩, hb⟩
    unfold nodV
    rw [← eK, ← eV, hN]
    simp
  | false =>
    have hwl := (wholeB_branch hl).1 hw
    have hc2 := h.c2
    rw [hwl.1] at hc2
    obtain ⟨a1, S1, R1⟩ := rd_from h.k (p + 1) n.K.length ck (by simp) (by simpa using hp) (by simpa using hk2)
    have e1 : ((n.K.map ukey).drop (p + 1)).length = n.K.length - (p + 1) := by simp
    have CK := fun wx a hb ha => cat1 glues_U ((n.K.map ukey).drop (p + 1)) (fun u hu => one_U _ u (List.mem_of_mem_drop hu)) (n.K.length - (p + 1)) e1.symm (by omega) (c1 := ck - (p + 1)) R1 wx a hb ha
    obtain ⟨a2, S2, R2⟩ := rd_from h.c (p + 1) (n.K.length + 1) cc (by simp [hwl.1]) (by simp [hwl.1]; omega) (by simpa using h.c2)
    rw [show n.K.length + 1 - (p + 1) = n.K.length - p from by omega] at S2
    have e2 : ((n.C.map ikid).drop (p + 1)).length = n.K.length - p := by simp [hwl.1]
    have CC := fun wx a hb ha => cat1 glues_I ((n.C.map ikid).drop (p + 1)) (fun u hu => one_I _ u (List.mem_of_mem_drop hu)) (n.K.length - p) e2.symm (by omega) (c1 := cc - (p + 1)) R2 wx a hb ha
    unfold nodV
    rw [hl, hwl.1]
    refine (behind_branch ak av ac a1 a2 ck cv cc n.K.length n.V.length p _ _ w (Lib.hid S1) (Lib.hid S2) (Lib.hid CK) (Lib.hid CC) hp hk2 hc2 hk1).mono ?_
    rintro e w' ⟨⟨x, rfl, xa, xb, xc, xd, rfl, q1, q2, q3, q4, q5, q6, q7, q8⟩, hb⟩
    have hN : behindN n p = { leaf := false, K := n.K.drop (p + 1), V := [], C := n.C.drop (p + 1) } := by unfold behindN; rw [hl]; rfl
    have eK : (behindN n p).K.map ukey = (n.K.map ukey).drop (p + 1) := by rw [hN]; simp [List.map_drop]
    have eC : (behindN n p).C.map ikid = (n.C.map ikid).drop (p + 1) := by rw [hN]; simp [List.map_drop]
    rw [← eK] at q1 q3
    rw [← eC] at q2 q5
    refine ⟨⟨xa, none, xb, xc, 0, xd, ?_, ⟨q1, by rw [hN]; exact .inl rfl, q2, by simpa using q3, q4, by rw [hN]; exact Nat.le_refl _, Nat.zero_le _, by simpa using q5, q6, hok⟩, q7, (fun x hx => by cases hx), q8⟩, hb⟩
    unfold nodV
    rw [← eK, ← eC, hN]
    simp
set_option maxHeartbeats 1600000 in
theorem least_is (n : Nod) (ak av ac : Option Addr) (ck cv cc : Nat) (w : World) :
    Calls Try.prog 40 #[nodV n ak av ac ck cv cc] w fun e w' => e = .returned (.int .i64 (leastN n.leaf : Int)) ∧ Below w.heap.size w w' := by
  unfold nodV
  generalize n.leaf = lf
  generalize n.K.length = lk
  generalize n.V.length = lv
  generalize n.C.length = lc
  cases lf
  all_goals
    go_enter Try.func40, Try.ntmps40
    go_wp2_with fail
    go_ret
    exact ⟨rfl, (Below.refl _ _).alloc (Nat.le_refl _) _⟩
set_option maxHeartbeats 1600000 in
theorem share_is (n : Nod) (ak av ac : Option Addr) (ck cv cc : Nat) (w : World) (h : NodR w n ak av ac ck cv cc) (i : Nat) (hw : wholeB n = true) (hi : i < n.K.length) (s : Nat) (hs : shareN n i = s) :
    Calls Try.prog 57 #[nodV n ak av ac ck cv cc, .int .i64 (i : Int)] w fun e w' => e = .returned (.int .i64 (s : Int)) ∧ Below w.heap.size w w' := by
  obtain ⟨lf, K, V, C⟩ := n
  subst hs
  cases lf
  · clear h hw hi
    unfold nodV shareN
    dsimp only
    generalize K.length = lk
    generalize V.length = lv
    generalize C.length = lc
    go_enter Try.func57, Try.ntmps57
    go_wp2_with fail
    go_ret
    exact ⟨rfl, (Below.refl _ _).alloc (Nat.le_refl _) _⟩
  · have hvk : V.length = K.length := ((wholeB_leaf rfl).1 hw).1
    have hiv : i < V.length := by rw [hvk]; exact hi
    obtain ⟨b, off, he, hb, hcell⟩ := h.v.at i (by simpa using hiv)
    subst he
    have hvb := h.ok.vb V[i] (List.getElem_mem hiv)
    have hgd : V.getD i ByteArray.empty = V[i] := by rw [List.getD_eq_getElem?_getD, List.getElem?_eq_getElem hiv]; rfl
    unfold nodV shareN
    dsimp only at hcell ⊢
    rw [hgd]
    obtain ⟨x, hx⟩ : ∃ x, V[i] = x := ⟨_, rfl⟩
    have hc : (w.alloc (.cells #[.bool true, .slice ak K.length ck, .slice (some ⟨b, off, none⟩) V.length cv, .slice ac C.length cc] 26)).cell? ⟨b, off + i, none⟩ = some (.string x) := by
      rw [World.cell?_alloc_lt _ _ _ hb, hcell, ← hx]; simp
    rw [hx] at hvb ⊢
    have hiI : (i : Int) < (V.length : Int) := by omega
    have hw9 : IntKind.i64.wrap (9 + (x.size : Int)) = 9 + (x.size : Int) := IntWalk.i64_in _ (by omega)
    clear hx hcell hgd h hw hi hiv hvk hvb
    generalize K.length = lk at *
    generalize V.length = lv at *
    generalize C.length = lc at *
    go_enter Try.func57, Try.ntmps57
    go_wp2_with fail
    go_ret
    exact ⟨ret_int (by simp), (Below.refl _ _).alloc (Nat.le_refl _) _⟩
end Go.Proofs.Ytkdcoipbdkmieaa
