/-
  Package node: Join of two whole nodes of one kind, on nodes as lists.
-/
import Derived.Test.YtkdcoipbdkmieaaNodeJw
namespace Go.Proofs.Ytkdcoipbdkmieaa
open Go.RowKit
set_option linter.unusedVariables false
set_option linter.unusedSimpArgs false
def joinN (a : Nod) (mid : Int) (b : Nod) : Nod := { leaf := a.leaf, K := a.K ++ (if a.leaf then [] else [mid]) ++ b.K, V := a.V ++ b.V, C := a.C ++ b.C }
def JoinBack (n : Nod) (e : Ending) (w' : World) : Prop :=
  if sizeN n ≤ 240 then ∃ ak av ac ck cv cc, e = .returned (.tuple #[nodV n ak av ac ck cv cc, .bool true]) ∧ NodR w' n ak av ac ck cv cc
  else e = .returned (.tuple #[zeroV, .bool false])
theorem join_ok (a b : Nod) (mid : Int) (ha : NodOk a) (hb : NodOk b) (hm : 0 ≤ mid ∧ mid ≤ 18446744073709551615) (h1 : a.K.length ≤ 450) (h2 : b.K.length ≤ 450) (h3 : a.V.length ≤ 450) (h4 : b.V.length ≤ 450) (h5 : a.C.length ≤ 450) (h6 : b.C.length ≤ 450) : NodOk (joinN a mid b) := by
  unfold joinN
  refine ⟨?_, ?_, ?_, ?_, ?_, ?_⟩
  · simp only [List.length_append]; split <;> simp <;> omega
  · simp only [List.length_append]; omega
  · simp only [List.length_append]; omega
  · intro x hx
    simp only [List.mem_append] at hx
    rcases hx with (hx | hx) | hx
    · exact ha.kb x hx
    · split at hx
      · cases hx
      · simp at hx; subst hx; exact hm
    · exact hb.kb x hx
  · intro x hx
    rcases List.mem_append.1 hx with hx | hx
    · exact ha.vb x hx
    · exact hb.vb x hx
  · intro x hx
    rcases List.mem_append.1 hx with hx | hx
    · exact ha.cb x hx
    · exact hb.cb x hx
theorem join_whole (a b : Nod) (mid : Int) (hl : a.leaf = b.leaf) (ha : wholeB a = true) (hb : wholeB b = true) : wholeB (joinN a mid b) = true := by
  cases h : a.leaf with
  | true =>
    have h1 := (wholeB_leaf h).1 ha
    have h2 := (wholeB_leaf (hl ▸ h)).1 hb
    refine (wholeB_leaf (n := joinN a mid b) h).2 ⟨?_, ?_⟩
    · simp only [joinN, h, List.length_append, if_true, List.length_nil]; omega
    · simp only [joinN, List.length_append]; omega
  | false =>
    have h1 := (wholeB_branch h).1 ha
    have h2 := (wholeB_branch (hl ▸ h)).1 hb
    refine (wholeB_branch (n := joinN a mid b) h).2 ⟨?_, ?_⟩
    · simp only [joinN, h, List.length_append, Bool.false_eq_true, if_false, List.length_cons, List.length_nil]; omega
    · simp only [joinN, List.length_append]; omega
theorem scalar_U (K : List Int) : ∀ u ∈ K.map ukey, scalar u = true := fun u hu => by obtain ⟨x, _, rfl⟩ := List.mem_map.1 hu; rfl
theorem scalar_I (K : List Int) : ∀ u ∈ K.map ikid, scalar u = true := fun u hu => by obtain ⟨x, _, rfl⟩ := List.mem_map.1 hu; rfl
theorem scalar_S (V : List ByteArray) : ∀ u ∈ V.map Value.string, scalar u = true := fun u hu => by obtain ⟨x, _, rfl⟩ := List.mem_map.1 hu; rfl
theorem join_is (a b : Nod) (ak av ac bk bv bc : Option Addr) (ck cv cc dk dv dc : Nat) (w : World) (hA : NodR w a ak av ac ck cv cc) (hB : NodR w b bk bv bc dk dv dc) (mid : Int) (hm : 0 ≤ mid ∧ mid ≤ 18446744073709551615)
    (hl : a.leaf = b.leaf) (wa : wholeB a = true) (wb : wholeB b = true) (h1 : a.K.length ≤ 400) (h2 : b.K.length ≤ 400) :
    Calls Try.prog 26 #[nodV a ak av ac ck cv cc, .int .u64 mid, nodV b bk bv bc dk dv dc] w fun e w' => JoinBack (joinN a mid b) e w' ∧ Below w.heap.size w w' := by
  have lens : ∀ n : Nod, wholeB n = true → n.K.length ≤ 400 → n.V.length ≤ 450 ∧ n.C.length ≤ 450 := by
    intro n hw hn
    cases h : n.leaf with
    | true => have := (wholeB_leaf h).1 hw; omega
    | false => have := (wholeB_branch h).1 hw; omega
  have la := lens a wa h1
  have lb := lens b wb h2
  have hok := join_ok a b mid hA.ok hB.ok hm (by omega) (by omega) la.1 lb.1 la.2 lb.2
  have hwh := join_whole a b mid hl wa wb
  have WA := Lib.hid (fun w => whole_any a ak av ac ck cv cc w hA.ok true wa)
  have WB := Lib.hid (fun w => whole_any b bk bv bc dk dv dc w hB.ok true wb)
  have C1 := Lib.hid (fun wx x hb ha => cat2 glues_U (a.K.map ukey) (b.K.map ukey) (one_U _) (one_U _) a.K.length b.K.length (by simp) (by simp) (by simp; omega) (by simp; omega) (c1 := ck) (c2 := dk) hA.k hB.k wx x hb ha)
  have C2 := Lib.hid (fun wx x hb ha => cat2 glues_S (a.V.map Value.string) (b.V.map Value.string) (one_S _) (one_S _) a.V.length b.V.length (by simp) (by simp) (by simp; omega) (by simp; omega) (c1 := cv) (c2 := dv) hA.v hB.v wx x hb ha)
  have C3 := Lib.hid (fun wx x hb ha => cat2 glues_I (a.C.map ikid) (b.C.map ikid) (one_I _) (one_I _) a.C.length b.C.length (by simp) (by simp) (by simp; omega) (by simp; omega) (c1 := cc) (c2 := dc) hA.c hB.c wx x hb ha)
  have R1 : Rd w ak (((a.K ++ b.K).map ukey).take a.K.length) := by rw [List.map_append, show a.K.length = (a.K.map ukey).length from by simp, List.take_left]; exact hA.k
  have R2 : Rd w bk (((a.K ++ b.K).map ukey).drop a.K.length) := by rw [List.map_append, show a.K.length = (a.K.map ukey).length from by simp, List.drop_left]; exact hB.k
  have e4 : ((a.K ++ b.K).map ukey).take a.K.length ++ [ukey mid] ++ ((a.K ++ b.K).map ukey).drop a.K.length = (a.K ++ [mid] ++ b.K).map ukey := by
    rw [List.map_append, show a.K.length = (a.K.map ukey).length from by simp, List.take_left, List.drop_left]; simp
  have C4 := fun wx x m hb ha hm => cat3 glues_U ((a.K ++ b.K).map ukey) (one_U _) (ukey mid) rfl a.K.length a.K.length b.K.length (by simp) (by simp) (by simp; omega) (c1 := ck) (c2 := dk) R1 R2 wx x m hb ha hm
  rw [e4] at C4
  have SC := Lib.hid (And.intro (show ∀ u ∈ a.K.map ukey ++ b.K.map ukey, scalar u = true from by rw [← List.map_append]; exact scalar_U _) (And.intro (show ∀ u ∈ a.V.map Value.string ++ b.V.map Value.string, scalar u = true from by rw [← List.map_append]; exact scalar_S _) (And.intro (show ∀ u ∈ a.C.map ikid ++ b.C.map ikid, scalar u = true from by rw [← List.map_append]; exact scalar_I _) (scalar_U (a.K ++ [mid] ++ b.K)))))
  have eV : (joinN a mid b).V.map Value.string = a.V.map Value.string ++ b.V.map Value.string := by simp [joinN]
  have eC : (joinN a mid b).C.map ikid = a.C.map ikid ++ b.C.map ikid := by simp [joinN]
  have SZ : ∀ XJ, (joinN a mid b).K.map ukey = XJ → ∀ wx xa xb xc ca cb cd, Rd wx xa XJ → Rd wx xb (a.V.map Value.string ++ b.V.map Value.string) → Rd wx xc (a.C.map ikid ++ b.C.map ikid) → XJ.length ≤ ca → ca ≤ maxLen → (a.V.map Value.string ++ b.V.map Value.string).length ≤ cb → cb ≤ maxLen → (a.C.map ikid ++ b.C.map ikid).length ≤ cd → cd ≤ maxLen →
      NodR wx (joinN a mid b) xa xb xc ca cb cd ∧ nodV (joinN a mid b) xa xb xc ca cb cd = .agg #[.bool a.leaf, .slice xa XJ.length ca, .slice xb (a.V.map Value.string ++ b.V.map Value.string).length cb, .slice xc (a.C.map ikid ++ b.C.map ikid).length cd] := by
    intro XJ hX wx xa xb xc ca cb cd q1 q2 q3 q4 q5 q6 q7 q8 q9
    subst hX
    rw [← eV] at q2 q6 ⊢
    rw [← eC] at q3 q8 ⊢
    refine ⟨⟨q1, q2, q3, by simpa using q4, q5, by simpa using q6, q7, by simpa using q8, q9, hok⟩, ?_⟩
    unfold nodV
    simp only [List.length_map]
    rfl
  have FIN : ∀ XJ, (joinN a mid b).K.map ukey = XJ → ∀ e w', JOut a.leaf XJ (a.V.map Value.string ++ b.V.map Value.string) (a.C.map ikid ++ b.C.map ikid) (decide (sizeN (joinN a mid b) ≤ 240)) e w' → JoinBack (joinN a mid b) e w' := by
    intro XJ hX e w' h
    unfold JOut at h
    unfold JoinBack
    by_cases hz : sizeN (joinN a mid b) ≤ 240
    · rw [decide_eq_true hz, if_pos rfl] at h
      rw [if_pos hz]
      obtain ⟨xa, xb, xc, ja, jb, jc, he, q1, q2, q3, q4, q5, q6, q7, q8, q9⟩ := h
      obtain ⟨r1, r2⟩ := SZ XJ hX w' xa xb xc ja jb jc q1 q2 q3 q4 q5 q6 q7 q8 q9
      exact ⟨xa, xb, xc, ja, jb, jc, by rw [r2]; exact he, r1⟩
    · rw [decide_eq_false hz] at h
      rw [if_neg hz]
      exact h
  have SZ' : ∀ XJ, (joinN a mid b).K.map ukey = XJ → ∀ wx xa xb xc ca cb cd, Rd wx xa XJ → Rd wx xb (a.V.map Value.string ++ b.V.map Value.string) → Rd wx xc (a.C.map ikid ++ b.C.map ikid) → XJ.length ≤ ca → ca ≤ maxLen → (a.V.map Value.string ++ b.V.map Value.string).length ≤ cb → cb ≤ maxLen → (a.C.map ikid ++ b.C.map ikid).length ≤ cd → cd ≤ maxLen →
      Calls Try.prog 33 #[.agg #[.bool a.leaf, .slice xa XJ.length ca, .slice xb (a.V.map Value.string ++ b.V.map Value.string).length cb, .slice xc (a.C.map ikid ++ b.C.map ikid).length cd]] wx fun e w' => e = .returned (.int .i64 (sizeN (joinN a mid b) : Int)) ∧ Below wx.heap.size wx w' := by
    intro XJ hX wx xa xb xc ca cb cd q1 q2 q3 q4 q5 q6 q7 q8 q9
    obtain ⟨r1, r2⟩ := SZ XJ hX wx xa xb xc ca cb cd q1 q2 q3 q4 q5 q6 q7 q8 q9
    rw [← r2]
    exact size_is (joinN a mid b) xa xb xc ca cb cd wx r1 _ (Lib.hid rfl) hwh
  unfold nodV at WA WB ⊢
  rw [← hl] at WB ⊢
  cases h : a.leaf with
  | true =>
    have hX : (joinN a mid b).K.map ukey = a.K.map ukey ++ b.K.map ukey := by simp [joinN, h]
    have := SZ' _ hX
    have hF := FIN _ hX
    rw [h] at WA WB this hF
    exact (join_leaf ak av ac bk bv bc ck cv cc dk dv dc a.K.length a.V.length a.C.length b.K.length b.V.length b.C.length _ mid _ _ _ _ w WA WB C1 C2 C3 (Lib.hid C4) SC (Lib.hid this)).mono fun e w' hh => ⟨hF e w' hh.1, hh.2⟩
  | false =>
    have hX : (joinN a mid b).K.map ukey = (a.K ++ [mid] ++ b.K).map ukey := by simp [joinN, h]
    have := SZ' _ hX
    have hF := FIN _ hX
    rw [h] at WA WB this hF
    exact (join_branch ak av ac bk bv bc ck cv cc dk dv dc a.K.length a.V.length a.C.length b.K.length b.V.length b.C.length _ mid _ _ _ _ w WA WB C1 C2 C3 (Lib.hid C4) SC (Lib.hid this)).mono fun e w' hh => ⟨hF e w' hh.1, hh.2⟩
end Go.Proofs.Ytkdcoipbdkmieaa
