/-
  Package node: Without and Unhang on nodes as lists, where they do something.
-/
import Derived.Test.YtkdcoipbdkmieaaNodeH
namespace Go.Proofs.Ytkdcoipbdkmieaa
open Go.RowKit
set_option linter.unusedVariables false
set_option linter.unusedSimpArgs false
def withoutN (n : Nod) (i : Nat) : Nod := { leaf := true, K := n.K.take i ++ n.K.drop (i + 1), V := n.V.take i ++ n.V.drop (i + 1), C := [] }
def unhangN (n : Nod) (i : Nat) : Nod := { leaf := false, K := n.K.take i ++ n.K.drop (i + 1), V := [], C := n.C.take (i + 1) ++ n.C.drop (i + 2) }
theorem mem_cut {α : Type} {l : List α} {i j : Nat} {x : α} (h : x ∈ l.take i ++ l.drop j) : x ∈ l := by
  rcases List.mem_append.1 h with h | h
  · exact List.mem_of_mem_take h
  · exact List.mem_of_mem_drop h
theorem len_cut {α : Type} (l : List α) (i j : Nat) (h : i ≤ j) : (l.take i ++ l.drop j).length ≤ l.length := by simp; omega
theorem unhang_ok (n : Nod) (i : Nat) (ho : NodOk n) : NodOk (unhangN n i) :=
  ⟨Nat.le_trans (len_cut _ _ _ (by omega)) ho.k1, Nat.zero_le _, Nat.le_trans (len_cut _ _ _ (by omega)) ho.c1, fun x hx => ho.kb x (mem_cut hx), fun x hx => (by cases hx), fun x hx => ho.cb x (mem_cut hx)⟩
theorem without_ok (n : Nod) (i : Nat) (ho : NodOk n) : NodOk (withoutN n i) :=
  ⟨Nat.le_trans (len_cut _ _ _ (by omega)) ho.k1, Nat.le_trans (len_cut _ _ _ (by omega)) ho.v1, Nat.zero_le _, fun x hx => ho.kb x (mem_cut hx), fun x hx => ho.vb x (mem_cut hx), fun x hx => (by cases hx)⟩
theorem unhang_is (n : Nod) (ak av ac : Option Addr) (ck cv cc : Nat) (w : World) (h : NodR w n ak av ac ck cv cc) (p : Nat) (hl : n.leaf = false) (hw : wholeB n = true) (hp : p + 1 ≤ n.K.length) :
    Calls Try.prog 16 #[nodV n ak av ac ck cv cc, .int .i64 (p : Int)] w fun e w' => NodBack w.heap.size (unhangN n p) e w' ∧ Below w.heap.size w w' := by
  have hwl := (wholeB_branch hl).1 hw
  have hok := unhang_ok n p h.ok
  have hk1 := h.ok.k1
  have hk2 := h.k2
  have hc2 := h.c2
  rw [hwl.1] at hc2
  obtain ⟨a1, S1, R1⟩ := rd_upto h.k p ck (by simp; omega) (by simpa using hk2)
  obtain ⟨a2, S2, R2⟩ := rd_from h.k (p + 1) n.K.length ck (by simp) (by simpa using hp) (by simpa using hk2)
  obtain ⟨a3, S3, R3⟩ := rd_upto h.c (p + 1) cc (by simp [hwl.1]; omega) (by simpa using h.c2)
  obtain ⟨a4, S4, R4⟩ := rd_from h.c (p + 2) (n.K.length + 1) cc (by simp [hwl.1]) (by simp [hwl.1]; omega) (by simpa using h.c2)
  rw [show n.K.length + 1 - (p + 2) = n.K.length - (p + 1) from by omega] at S4
  have e1 : ((n.K.map ukey).take p).length = p := by simp; omega
  have e2 : ((n.K.map ukey).drop (p + 1)).length = n.K.length - (p + 1) := by simp
  have e3 : ((n.C.map ikid).take (p + 1)).length = p + 1 := by simp [hwl.1]; omega
  have e4 : ((n.C.map ikid).drop (p + 2)).length = n.K.length - (p + 1) := by simp [hwl.1]
  have CK := fun wx a hb ha => cat2 glues_U ((n.K.map ukey).take p) ((n.K.map ukey).drop (p + 1)) (fun u hu => one_U _ u (List.mem_of_mem_take hu)) (fun u hu => one_U _ u (List.mem_of_mem_drop hu)) p (n.K.length - (p + 1)) e1.symm e2.symm (by omega) (by omega) (c1 := ck) (c2 := ck - (p + 1)) R1 R2 wx a hb ha
  have CC := fun wx a hb ha => cat2 glues_I ((n.C.map ikid).take (p + 1)) ((n.C.map ikid).drop (p + 2)) (fun u hu => one_I _ u (List.mem_of_mem_take hu)) (fun u hu => one_I _ u (List.mem_of_mem_drop hu)) (p + 1) (n.K.length - (p + 1)) e3.symm e4.symm (by omega) (by omega) (c1 := cc) (c2 := cc - (p + 2)) R3 R4 wx a hb ha
  have WH : ∀ w, Calls Try.prog 34 #[nodV n ak av ac ck cv cc] w fun e w' => e = .returned (.bool true) ∧ Below w.heap.size w w' := fun w => whole_any n ak av ac ck cv cc w h.ok true hw
  unfold nodV at WH ⊢
  rw [hl, hwl.1] at WH ⊢
  refine (unhang_yes ak av ac a1 a2 a3 a4 ck cv cc n.K.length n.V.length p _ _ w (Lib.hid WH) (Lib.hid S1) (Lib.hid S2) (Lib.hid S3) (Lib.hid S4) (Lib.hid CK) (Lib.hid CC) hp hk2 hc2 h.ok.k1).mono ?_
  rintro e w' ⟨⟨x, rfl, xa, xb, xc, xd, rfl, q1, q2, q3, q4, q5, q6, q7, q8⟩, hb⟩
  have eK : (unhangN n p).K.map ukey = (n.K.map ukey).take p ++ (n.K.map ukey).drop (p + 1) := by simp [unhangN, List.map_take, List.map_drop]
  have eC : (unhangN n p).C.map ikid = (n.C.map ikid).take (p + 1) ++ (n.C.map ikid).drop (p + 2) := by simp [unhangN, List.map_take, List.map_drop]
  rw [← eK] at q1 q3
  rw [← eC] at q2 q5
  refine ⟨⟨xa, none, xb, xc, 0, xd, ?_, ⟨q1, .inl rfl, q2, by simpa using q3, q4, Nat.le_refl _, Nat.zero_le _, by simpa using q5, q6, hok⟩, q7, (fun x hx => by cases hx), q8⟩, hb⟩
  unfold nodV
  rw [← eK, ← eC]
  simp [unhangN]
theorem without_is (n : Nod) (ak av ac : Option Addr) (ck cv cc : Nat) (w : World) (h : NodR w n ak av ac ck cv cc) (p : Nat) (hl : n.leaf = true) (hw : wholeB n = true) (hp : p + 1 ≤ n.K.length) :
    Calls Try.prog 14 #[nodV n ak av ac ck cv cc, .int .i64 (p : Int)] w fun e w' => NodBack w.heap.size (withoutN n p) e w' ∧ Below w.heap.size w w' := by
  have hwl := (wholeB_leaf hl).1 hw
  have hok := without_ok n p h.ok
  have hk1 := h.ok.k1
  have hk2 := h.k2
  have hv2 := h.v2
  rw [hwl.1] at hv2
  obtain ⟨a1, S1, R1⟩ := rd_upto h.k p ck (by simp; omega) (by simpa using hk2)
  obtain ⟨a2, S2, R2⟩ := rd_from h.k (p + 1) n.K.length ck (by simp) (by simpa using hp) (by simpa using hk2)
  obtain ⟨a3, S3, R3⟩ := rd_upto h.v p cv (by simp [hwl.1]; omega) (by simpa using h.v2)
  obtain ⟨a4, S4, R4⟩ := rd_from h.v (p + 1) n.K.length cv (by simp [hwl.1]) (by simp [hwl.1]; omega) (by simpa using h.v2)
  have e1 : ((n.K.map ukey).take p).length = p := by simp; omega
  have e2 : ((n.K.map ukey).drop (p + 1)).length = n.K.length - (p + 1) := by simp
  have e3 : ((n.V.map Value.string).take p).length = p := by simp [hwl.1]; omega
  have e4 : ((n.V.map Value.string).drop (p + 1)).length = n.K.length - (p + 1) := by simp [hwl.1]
  have CK := fun wx a hb ha => cat2 glues_U ((n.K.map ukey).take p) ((n.K.map ukey).drop (p + 1)) (fun u hu => one_U _ u (List.mem_of_mem_take hu)) (fun u hu => one_U _ u (List.mem_of_mem_drop hu)) p (n.K.length - (p + 1)) e1.symm e2.symm (by omega) (by omega) (c1 := ck) (c2 := ck - (p + 1)) R1 R2 wx a hb ha
  have CC := fun wx a hb ha => cat2 glues_S ((n.V.map Value.string).take p) ((n.V.map Value.string).drop (p + 1)) (fun u hu => one_S _ u (List.mem_of_mem_take hu)) (fun u hu => one_S _ u (List.mem_of_mem_drop hu)) p (n.K.length - (p + 1)) e3.symm e4.symm (by omega) (by omega) (c1 := cv) (c2 := cv - (p + 1)) R3 R4 wx a hb ha
  have WH : ∀ w, Calls Try.prog 34 #[nodV n ak av ac ck cv cc] w fun e w' => e = .returned (.bool true) ∧ Below w.heap.size w w' := fun w => whole_any n ak av ac ck cv cc w h.ok true hw
  unfold nodV at WH ⊢
  rw [hl, hwl.1] at WH ⊢
  refine (without_yes ak av ac a1 a2 a3 a4 ck cv cc n.K.length n.C.length p _ _ w (Lib.hid WH) (Lib.hid S1) (Lib.hid S2) (Lib.hid S3) (Lib.hid S4) (Lib.hid CK) (Lib.hid CC) hp hk2 hv2 h.ok.k1).mono ?_
  rintro e w' ⟨⟨x, rfl, xa, xb, xc, xd, rfl, q1, q2, q3, q4, q5, q6, q7, q8⟩, hb⟩
  have eK : (withoutN n p).K.map ukey = (n.K.map ukey).take p ++ (n.K.map ukey).drop (p + 1) := by simp [withoutN, List.map_take, List.map_drop]
  have eV : (withoutN n p).V.map Value.string = (n.V.map Value.string).take p ++ (n.V.map Value.string).drop (p + 1) := by simp [withoutN, List.map_take, List.map_drop]
  rw [← eK] at q1 q3
  rw [← eV] at q2 q5
  refine ⟨⟨xa, xb, none, xc, xd, 0, ?_, ⟨q1, q2, .inl rfl, by simpa using q3, q4, by simpa using q5, q6, Nat.le_refl _, Nat.zero_le _, hok⟩, q7, q8, fun x hx => by cases hx⟩, hb⟩
  unfold nodV
  rw [← eK, ← eV]
  simp [withoutN]
/-- Taken off again the branch is as it was. -/
theorem unhang_hang (n : Nod) (p : Nat) (key kid : Int) (hl : n.leaf = false) (hw : wholeB n = true) (hp : p ≤ n.K.length) : unhangN (hangN n (p : Int) key kid) p = n := by
  have hwl := (wholeB_branch hl).1 hw
  have hhang : hangN n (p : Int) key kid = { leaf := false, K := n.K.take p ++ [key] ++ n.K.drop p, V := [], C := n.C.take (p + 1) ++ [kid] ++ n.C.drop (p + 1) } := by
    unfold hangN
    rw [if_pos (by rw [hl, hw]; simp; omega)]
    simp
  have hcut : ∀ {α : Type} (l : List α) (x : α) (q : Nat), q ≤ l.length → (l.take q ++ [x] ++ l.drop q).take q ++ (l.take q ++ [x] ++ l.drop q).drop (q + 1) = l := by
    intro α l x q hq
    rw [List.append_assoc, List.take_append_of_le_length (by simp; omega), List.take_take, Nat.min_self, List.drop_append, List.drop_eq_nil_of_le (by simp; omega), List.length_take, Nat.min_eq_left hq, show q + 1 - q = 1 from by omega]
    simp
  obtain ⟨lf, K, V, C⟩ := n
  dsimp only at *
  subst hl
  rw [hhang]
  unfold unhangN
  have hV : V = [] := List.length_eq_zero_iff.1 hwl.2
  subst hV
  rw [hcut K key p hp, hcut C kid (p + 1) (by omega)]
end Go.Proofs.Ytkdcoipbdkmieaa
