/-
  Package node: Put, of any leaf that is whole, as a list.
-/
import Derived.Test.YtkdcoipbdkmieaaNodeP
namespace Go.Proofs.Ytkdcoipbdkmieaa
open Go.RowKit
set_option linter.unusedVariables false
set_option linter.unusedSimpArgs false
/-- A node is handed back. -/
def NodBack (lo : Nat) (n : Nod) (e : Ending) (w' : World) : Prop := ∃ ak av ac ck cv cc, e = .returned (nodV n ak av ac ck cv cc) ∧ NodR w' n ak av ac ck cv cc ∧ (∀ x, ak = some x → lo ≤ x.block) ∧ (∀ x, av = some x → lo ≤ x.block) ∧ ∀ x, ac = some x → lo ≤ x.block
theorem nput_ok (n : Nod) (key : Int) (v : ByteArray) (ho : NodOk n) (hn : n.K.length ≤ 900) (hm : n.V.length ≤ 900) (hkb : 0 ≤ key ∧ key ≤ 18446744073709551615) (hvb : v.size ≤ 140737488351232) : NodOk (putN n key v) := by
  unfold putN
  split
  · refine ⟨?_, ?_, by simp, ?_, ?_, by simp⟩
    · simp only [List.length_append, List.length_take, List.length_drop, List.length_cons, List.length_nil]; omega
    · simp only [List.length_append, List.length_take, List.length_drop, List.length_cons, List.length_nil]; omega
    · intro x hx
      simp only [List.mem_append, List.mem_cons, List.not_mem_nil, or_false] at hx
      rcases hx with (hx | hx) | hx
      · exact ho.kb x (List.mem_of_mem_take hx)
      · rw [hx]; exact hkb
      · exact ho.kb x (List.mem_of_mem_drop hx)
    · intro x hx
      simp only [List.mem_append, List.mem_cons, List.not_mem_nil, or_false] at hx
      rcases hx with (hx | hx) | hx
      · exact ho.vb x (List.mem_of_mem_take hx)
      · rw [hx]; exact hvb
      · exact ho.vb x (List.mem_of_mem_drop hx)
  · exact ho
theorem put_is (n : Nod) (ak av ac : Option Addr) (ck cv cc : Nat) (w : World) (h : NodR w n ak av ac ck cv cc) (key : Int) (v : ByteArray) (hl : n.leaf = true) (hw : wholeB n = true) (hn : n.K.length ≤ 900) (hkb : 0 ≤ key ∧ key ≤ 18446744073709551615) (hvb : v.size ≤ 140737488351232) :
    Calls Try.prog 13 #[nodV n ak av ac ck cv cc, .int .u64 key, .string v] w fun e w' => NodBack w.heap.size (putN n key v) e w' ∧ Below w.heap.size w w' := by
  have hwl := (wholeB_leaf hl).1 hw
  have hok := nput_ok n key v h.ok hn (by omega) hkb hvb
  obtain ⟨⟨p, ok⟩, hp⟩ : ∃ po, findN n key = po := ⟨_, rfl⟩
  have hple := findN_le n key
  have hplt := findN_lt n key
  rw [hp] at hple hplt
  have hput : putN n key v = { leaf := true, K := n.K.take p ++ [key] ++ n.K.drop (p + (if ok then 1 else 0)), V := n.V.take p ++ [v] ++ n.V.drop (p + (if ok then 1 else 0)), C := [] } := by
    unfold putN
    rw [if_pos (by rw [hl, hw]; rfl), hp]
  have hqle : p + (if ok then 1 else 0) ≤ n.K.length := by
    cases ok
    · simpa using hple
    · have := hplt rfl hl; simp at this ⊢; omega
  obtain ⟨a1, S1, R1⟩ := h.k.sliced 0 p ck (Nat.zero_le _) (by simpa using hple) (by simpa using h.k2)
  obtain ⟨a2, S2, R2⟩ := h.k.sliced (p + (if ok then 1 else 0)) n.K.length ck hqle (by simp) (by simpa using h.k2)
  obtain ⟨a3, S3, R3⟩ := h.v.sliced 0 p cv (Nat.zero_le _) (by simp [hwl.1]; exact hple) (by simpa using h.v2)
  obtain ⟨a4, S4, R4⟩ := h.v.sliced (p + (if ok then 1 else 0)) n.K.length cv hqle (by simp [hwl.1]) (by simpa using h.v2)
  simp only [Nat.sub_zero, List.drop_zero] at S1 S3 R1 R3
  have hk1 := h.ok.k1
  have hv2 := h.v2
  rw [hwl.1] at hv2
  -- the lists that are put together
  have CK : ∀ wx a m, Below w.heap.size w wx → Rd wx a [.slice a1 p ck, .slice m 1 1, .slice a2 (n.K.length - (p + (if ok then 1 else 0))) (ck - (p + (if ok then 1 else 0)))] → Rd wx m [ukey key] →
      Calls Try.prog 35 #[.slice a 3 3] wx fun e w' => RowOut wx.heap.size 27 ((putN n key v).K.map ukey) e w' ∧ Below wx.heap.size wx w' := by
    intro wx a m hb ha hm
    have := glue_U a 3 [⟨a1, (n.K.map ukey).take p, ck⟩, ⟨m, [ukey key], 1⟩, ⟨a2, ((n.K.map ukey).drop (p + (if ok then 1 else 0))).take (n.K.length - (p + (if ok then 1 else 0))), ck - (p + (if ok then 1 else 0))⟩] wx
      (by
        have e1 : ((n.K.map ukey).take p).length = p := by simp; omega
        have e2 : (((n.K.map ukey).drop (p + (if ok then 1 else 0))).take (n.K.length - (p + (if ok then 1 else 0)))).length = n.K.length - (p + (if ok then 1 else 0)) := by simp
        simp only [List.map_cons, List.map_nil, Src.val, e1, e2, List.length_cons, List.length_nil]
        exact ha)
      (by
        intro s hs
        simp only [List.mem_cons, List.not_mem_nil, or_false] at hs
        rcases hs with rfl | rfl | rfl
        · exact R1.below hb
        · exact hm
        · exact R2.below hb)
      (by
        intro s hs u hu
        simp only [List.mem_cons, List.not_mem_nil, or_false] at hs
        rcases hs with rfl | rfl | rfl
        · obtain ⟨x, _, rfl⟩ := List.mem_map.1 (List.mem_of_mem_take hu); rfl
        · simp at hu; subst hu; rfl
        · obtain ⟨x, _, rfl⟩ := List.mem_map.1 (List.mem_of_mem_drop (List.mem_of_mem_take hu)); rfl)
      (by simp [flatS]; omega) (by simp)
    have e : flatS [⟨a1, (n.K.map ukey).take p, ck⟩, ⟨m, [ukey key], 1⟩, ⟨a2, ((n.K.map ukey).drop (p + (if ok then 1 else 0))).take (n.K.length - (p + (if ok then 1 else 0))), ck - (p + (if ok then 1 else 0))⟩] = (putN n key v).K.map ukey := by
      rw [hput]
      simp only [flatS, List.map_append, List.map_take, List.map_drop, List.map_cons, List.map_nil, List.append_nil, List.append_assoc]
      congr 2
      rw [List.take_of_length_le (by simp)]
    rw [e] at this
    exact this
  have CV : ∀ wx a m, Below w.heap.size w wx → Rd wx a [.slice a3 p cv, .slice m 1 1, .slice a4 (n.K.length - (p + (if ok then 1 else 0))) (cv - (p + (if ok then 1 else 0)))] → Rd wx m [.string v] →
      Calls Try.prog 36 #[.slice a 3 3] wx fun e w' => RowOut wx.heap.size 9 ((putN n key v).V.map Value.string) e w' ∧ Below wx.heap.size wx w' := by
    intro wx a m hb ha hm
    have := glue_S a 3 [⟨a3, (n.V.map Value.string).take p, cv⟩, ⟨m, [.string v], 1⟩, ⟨a4, ((n.V.map Value.string).drop (p + (if ok then 1 else 0))).take (n.K.length - (p + (if ok then 1 else 0))), cv - (p + (if ok then 1 else 0))⟩] wx
      (by
        have e1 : ((n.V.map Value.string).take p).length = p := by simp [hwl.1]; omega
        have e2 : (((n.V.map Value.string).drop (p + (if ok then 1 else 0))).take (n.K.length - (p + (if ok then 1 else 0)))).length = n.K.length - (p + (if ok then 1 else 0)) := by simp [hwl.1]
        simp only [List.map_cons, List.map_nil, Src.val, e1, e2, List.length_cons, List.length_nil]
        exact ha)
      (by
        intro s hs
        simp only [List.mem_cons, List.not_mem_nil, or_false] at hs
        rcases hs with rfl | rfl | rfl
        · exact R3.below hb
        · exact hm
        · exact R4.below hb)
      (by
        intro s hs u hu
        simp only [List.mem_cons, List.not_mem_nil, or_false] at hs
        rcases hs with rfl | rfl | rfl
        · obtain ⟨x, _, rfl⟩ := List.mem_map.1 (List.mem_of_mem_take hu); rfl
        · simp at hu; subst hu; rfl
        · obtain ⟨x, _, rfl⟩ := List.mem_map.1 (List.mem_of_mem_drop (List.mem_of_mem_take hu)); rfl)
      (by simp [flatS, hwl.1]; omega) (by simp)
    have e : flatS [⟨a3, (n.V.map Value.string).take p, cv⟩, ⟨m, [.string v], 1⟩, ⟨a4, ((n.V.map Value.string).drop (p + (if ok then 1 else 0))).take (n.K.length - (p + (if ok then 1 else 0))), cv - (p + (if ok then 1 else 0))⟩] = (putN n key v).V.map Value.string := by
      rw [hput]
      simp only [flatS, List.map_append, List.map_take, List.map_drop, List.map_cons, List.map_nil, List.append_nil, List.append_assoc]
      congr 2
      rw [List.take_of_length_le (by simp [hwl.1])]
    rw [e] at this
    exact this
  have WH : ∀ w, Calls Try.prog 34 #[nodV n ak av ac ck cv cc] w fun e w' => e = .returned (.bool true) ∧ Below w.heap.size w w' := fun w => whole_any n ak av ac ck cv cc w h.ok true hw
  have FI : ∀ w1, Below w.heap.size w w1 → Calls Try.prog 12 #[nodV n ak av ac ck cv cc, .int .u64 key] w1 fun e w' => e = .returned (.tuple #[.int .i64 (p : Int), .bool ok]) ∧ Below w1.heap.size w1 w' := fun w1 hb => find_is n ak av ac ck cv cc w1 (h.below hb) key p ok (Lib.hid hp)
  have FIN : ∀ e w', NodOut w.heap.size ((putN n key v).K.map ukey) ((putN n key v).V.map Value.string) e w' ∧ Below w.heap.size w w' → NodBack w.heap.size (putN n key v) e w' ∧ Below w.heap.size w w' := by
    rintro e w' ⟨⟨x, rfl, xa, xb, xc, xd, rfl, q1, q2, q3, q4, q5, q6, q7, q8⟩, hb⟩
    refine ⟨⟨xa, xb, none, xc, xd, 0, ?_, ⟨q1, q2, ?_, by simpa using q3, q4, by simpa using q5, q6, ?_, Nat.zero_le _, hok⟩, q7, q8, fun x hx => by cases hx⟩, hb⟩
    · unfold nodV
      rw [put_leaf n key v hl]
      rw [hput]
      simp
    · rw [hput]; exact .inl rfl
    · rw [hput]; simp
  unfold nodV at WH FI ⊢
  rw [hl, hwl.1] at WH FI ⊢
  cases ok
  · simp only [Bool.false_eq_true, if_false, Nat.add_zero] at *
    exact (nput_no ak av ac a1 a2 a3 a4 ck cv cc n.K.length n.C.length p key v _ _ w (Lib.hid WH) (Lib.hid FI) (Lib.hid S1) (Lib.hid S2) (Lib.hid S3) (Lib.hid S4) (Lib.hid CK) (Lib.hid CV) hple hqle h.k2 hv2 hk1).mono FIN
  · simp only [if_true] at *
    exact (nput_yes ak av ac a1 a2 a3 a4 ck cv cc n.K.length n.C.length p key v _ _ w (Lib.hid WH) (Lib.hid FI) (Lib.hid S1) (Lib.hid S2) (Lib.hid S3) (Lib.hid S4) (Lib.hid CK) (Lib.hid CV) hple hqle h.k2 hv2 hk1).mono FIN
end Go.Proofs.Ytkdcoipbdkmieaa
