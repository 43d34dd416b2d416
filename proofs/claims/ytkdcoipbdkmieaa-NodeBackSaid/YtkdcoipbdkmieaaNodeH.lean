/-
  Package node: lists put together of parts of lists; Hang, Without, Unhang as lists.
-/
import Derived.Test.YtkdcoipbdkmieaaNodeQ
import Derived.Test.YtkdcoipbdkmieaaNodeU
namespace Go.Proofs.Ytkdcoipbdkmieaa
open Go.RowKit
set_option linter.unusedVariables false
set_option linter.unusedSimpArgs false
/-- What glue says, of whatever type. -/
def Glues (F : FuncId) (T : TypeId) : Prop := ∀ (al : Option Addr) (cl : Nat) (l : List Src) (w : World), Rd w al (l.map Src.val) → (∀ s ∈ l, Rd w s.a s.L) → (∀ s ∈ l, ∀ u ∈ s.L, u.oneCell' = true) → (flatS l).length ≤ 100000 → l.length ≤ 1000 →
  Calls Try.prog F #[.slice al l.length cl] w fun e w' => RowOut w.heap.size T (flatS l) e w' ∧ Below w.heap.size w w'
theorem cat3 {F : FuncId} {T : TypeId} (G : Glues F T) {w : World} (M : List Value) (h1 : ∀ u ∈ M, u.oneCell' = true) (x : Value) (hx : x.oneCell' = true) (p q d : Nat) (hp : p ≤ M.length) (hd : d = M.length - q) (hM : M.length ≤ 1001) {a1 a2 : Option Addr} {c1 c2 : Nat}
    (R1 : Rd w a1 (M.take p)) (R2 : Rd w a2 (M.drop q)) (wx : World) (a m : Option Addr) (hb : Below w.heap.size w wx) (ha : Rd wx a [.slice a1 p c1, .slice m 1 1, .slice a2 d c2]) (hm : Rd wx m [x]) :
    Calls Try.prog F #[.slice a 3 3] wx fun e w' => RowOut wx.heap.size T (M.take p ++ [x] ++ M.drop q) e w' ∧ Below wx.heap.size wx w' := by
  have := G a 3 [⟨a1, M.take p, c1⟩, ⟨m, [x], 1⟩, ⟨a2, M.drop q, c2⟩] wx
    (by
      have e1 : (M.take p).length = p := by simp; omega
      have e2 : (M.drop q).length = d := by simp; omega
      simp only [List.map_cons, List.map_nil, Src.val, e1, e2, List.length_cons, List.length_nil]
      exact ha)
    (by
      intro s hs
      simp only [List.mem_cons, List.not_mem_nil, or_false] at hs
      rcases hs with rfl | rfl | rfl
      · exact R1.below hb
      · exact hm
      · exact R2.below hb)
    (by
      intro s hs u hu
      simp only [List.mem_cons, List.not_mem_nil, or_false] at hs
      rcases hs with rfl | rfl | rfl
      · exact h1 u (List.mem_of_mem_take hu)
      · simp at hu; subst hu; exact hx
      · exact h1 u (List.mem_of_mem_drop hu))
    (by simp [flatS]; omega) (by simp)
  have e : flatS [⟨a1, M.take p, c1⟩, ⟨m, [x], 1⟩, ⟨a2, M.drop q, c2⟩] = M.take p ++ [x] ++ M.drop q := by simp [flatS]
  rw [e] at this
  exact this
theorem cat2 {F : FuncId} {T : TypeId} (G : Glues F T) {w : World} (M N : List Value) (h1 : ∀ u ∈ M, u.oneCell' = true) (h2 : ∀ u ∈ N, u.oneCell' = true) (p d : Nat) (hp : p = M.length) (hd : d = N.length) (hM : M.length ≤ 2000) (hN : N.length ≤ 2000) {a1 a2 : Option Addr} {c1 c2 : Nat}
    (R1 : Rd w a1 M) (R2 : Rd w a2 N) (wx : World) (a : Option Addr) (hb : Below w.heap.size w wx) (ha : Rd wx a [.slice a1 p c1, .slice a2 d c2]) :
    Calls Try.prog F #[.slice a 2 2] wx fun e w' => RowOut wx.heap.size T (M ++ N) e w' ∧ Below wx.heap.size wx w' := by
  subst hp
  subst hd
  have := G a 2 [⟨a1, M, c1⟩, ⟨a2, N, c2⟩] wx
    (by simp only [List.map_cons, List.map_nil, Src.val]; exact ha)
    (by
      intro s hs
      simp only [List.mem_cons, List.not_mem_nil, or_false] at hs
      rcases hs with rfl | rfl
      · exact R1.below hb
      · exact R2.below hb)
    (by
      intro s hs u hu
      simp only [List.mem_cons, List.not_mem_nil, or_false] at hs
      rcases hs with rfl | rfl
      · exact h1 u hu
      · exact h2 u hu)
    (by simp [flatS]; omega) (by simp)
  have e : flatS [⟨a1, M, c1⟩, ⟨a2, N, c2⟩] = M ++ N := by simp [flatS]
  rw [e] at this
  exact this
theorem cat1 {F : FuncId} {T : TypeId} (G : Glues F T) {w : World} (M : List Value) (h1 : ∀ u ∈ M, u.oneCell' = true) (p : Nat) (hp : p = M.length) (hM : M.length ≤ 2000) {a1 : Option Addr} {c1 : Nat}
    (R1 : Rd w a1 M) (wx : World) (a : Option Addr) (hb : Below w.heap.size w wx) (ha : Rd wx a [.slice a1 p c1]) :
    Calls Try.prog F #[.slice a 1 1] wx fun e w' => RowOut wx.heap.size T M e w' ∧ Below wx.heap.size wx w' := by
  subst hp
  have := G a 1 [⟨a1, M, c1⟩] wx
    (by simp only [List.map_cons, List.map_nil, Src.val]; exact ha)
    (by
      intro s hs
      simp only [List.mem_cons, List.not_mem_nil, or_false] at hs
      subst hs
      exact R1.below hb)
    (by
      intro s hs u hu
      simp only [List.mem_cons, List.not_mem_nil, or_false] at hs
      subst hs
      exact h1 u hu)
    (by simp [flatS]; omega) (by simp)
  have e : flatS [⟨a1, M, c1⟩] = M := by simp [flatS]
  rw [e] at this
  exact this
theorem glues_U : Glues 35 27 := glue_U
theorem glues_S : Glues 36 9 := glue_S
theorem glues_I : Glues 37 3 := glue_I
theorem one_U (K : List Int) : ∀ u ∈ K.map ukey, u.oneCell' = true := fun u hu => by obtain ⟨x, _, rfl⟩ := List.mem_map.1 hu; rfl
theorem one_I (K : List Int) : ∀ u ∈ K.map ikid, u.oneCell' = true := fun u hu => by obtain ⟨x, _, rfl⟩ := List.mem_map.1 hu; rfl
theorem one_S (V : List ByteArray) : ∀ u ∈ V.map Value.string, u.oneCell' = true := fun u hu => by obtain ⟨x, _, rfl⟩ := List.mem_map.1 hu; rfl
/-- A slice from lo on to the end. -/
theorem rd_from {w : World} {a : Option Addr} {L : List Value} (h : Rd w a L) (lo hi cap : Nat) (hhi : hi = L.length) (h1 : lo ≤ L.length) (h3 : L.length ≤ cap) :
    ∃ a', sliced a lo hi cap 1 = .slice a' (hi - lo) (cap - lo) ∧ Rd w a' (L.drop lo) := by
  subst hhi
  obtain ⟨a', h4, h5⟩ := h.sliced lo L.length cap h1 (Nat.le_refl _) h3
  exact ⟨a', h4, by rwa [List.take_of_length_le (by simp)] at h5⟩
theorem rd_upto {w : World} {a : Option Addr} {L : List Value} (h : Rd w a L) (hi cap : Nat) (h1 : hi ≤ L.length) (h3 : L.length ≤ cap) :
    ∃ a', sliced a 0 hi cap 1 = .slice a' hi cap ∧ Rd w a' (L.take hi) := by
  obtain ⟨a', h4, h5⟩ := h.sliced 0 hi cap (Nat.zero_le _) h1 h3
  exact ⟨a', by simp only [Nat.sub_zero] at h4; exact h4, by simp only [Nat.sub_zero, List.drop_zero] at h5; exact h5⟩
theorem hang_ok (n : Nod) (i key kid : Int) (ho : NodOk n) (hn : n.K.length ≤ 900) (hm : n.C.length ≤ 900) (hkb : 0 ≤ key ∧ key ≤ 18446744073709551615) (hvb : -9223372036854775808 ≤ kid ∧ kid ≤ 9223372036854775807) : NodOk (hangN n i key kid) := by
  unfold hangN
  split
  · refine ⟨?_, by simp, ?_, ?_, by simp, ?_⟩
    · simp only [List.length_append, List.length_take, List.length_drop, List.length_cons, List.length_nil]; omega
    · simp only [List.length_append, List.length_take, List.length_drop, List.length_cons, List.length_nil]; omega
    · intro x hx
      simp only [List.mem_append, List.mem_cons, List.not_mem_nil, or_false] at hx
      rcases hx with (hx | hx) | hx
      · exact ho.kb x (List.mem_of_mem_take hx)
      · rw [hx]; exact hkb
      · exact ho.kb x (List.mem_of_mem_drop hx)
    · intro x hx
      simp only [List.mem_append, List.mem_cons, List.not_mem_nil, or_false] at hx
      rcases hx with (hx | hx) | hx
      · exact ho.cb x (List.mem_of_mem_take hx)
      · rw [hx]; exact hvb
      · exact ho.cb x (List.mem_of_mem_drop hx)
  · exact ho
theorem hang_is (n : Nod) (ak av ac : Option Addr) (ck cv cc : Nat) (w : World) (h : NodR w n ak av ac ck cv cc) (p : Nat) (key kid : Int) (hl : n.leaf = false) (hw : wholeB n = true) (hp : p ≤ n.K.length) (hn : n.K.length ≤ 800) (hkb : 0 ≤ key ∧ key ≤ 18446744073709551615) (hvb : -9223372036854775808 ≤ kid ∧ kid ≤ 9223372036854775807) :
    Calls Try.prog 15 #[nodV n ak av ac ck cv cc, .int .i64 (p : Int), .int .u64 key, .int .i64 kid] w fun e w' => NodBack w.heap.size (hangN n (p : Int) key kid) e w' ∧ Below w.heap.size w w' := by
  have hwl := (wholeB_branch hl).1 hw
  have hok := hang_ok n (p : Int) key kid h.ok (by omega) (by omega) hkb hvb
  have hhang : hangN n (p : Int) key kid = { leaf := false, K := n.K.take p ++ [key] ++ n.K.drop p, V := [], C := n.C.take (p + 1) ++ [kid] ++ n.C.drop (p + 1) } := by
    unfold hangN
    rw [if_pos (by rw [hl, hw]; simp; omega)]
    simp
  have hk2 := h.k2
  have hc2 := h.c2
  rw [hwl.1] at hc2
  obtain ⟨a1, S1, R1⟩ := rd_upto h.k p ck (by simpa using hp) (by simpa using hk2)
  obtain ⟨a2, S2, R2⟩ := rd_from h.k p n.K.length ck (by simp) (by simpa using hp) (by simpa using hk2)
  obtain ⟨a3, S3, R3⟩ := rd_upto h.c (p + 1) cc (by simp [hwl.1]; omega) (by simpa using h.c2)
  obtain ⟨a4, S4, R4⟩ := rd_from h.c (p + 1) (n.K.length + 1) cc (by simp [hwl.1]) (by simp [hwl.1]; omega) (by simpa using h.c2)
  rw [show n.K.length + 1 - (p + 1) = n.K.length - p from by omega] at S4
  have CK := fun wx a m hb ha hm => cat3 glues_U (n.K.map ukey) (one_U _) (ukey key) rfl p p (n.K.length - p) (by simpa using hp) (by simp) (by simp; omega) (c1 := ck) (c2 := ck - p) R1 R2 wx a m hb ha hm
  have CC := fun wx a m hb ha hm => cat3 glues_I (n.C.map ikid) (one_I _) (ikid kid) rfl (p + 1) (p + 1) (n.K.length - p) (by simp [hwl.1]; omega) (by simp [hwl.1]) (by simp; omega) (c1 := cc) (c2 := cc - (p + 1)) R3 R4 wx a m hb ha hm
  have WH : ∀ w, Calls Try.prog 34 #[nodV n ak av ac ck cv cc] w fun e w' => e = .returned (.bool true) ∧ Below w.heap.size w w' := fun w => whole_any n ak av ac ck cv cc w h.ok true hw
  unfold nodV at WH ⊢
  rw [hl, hwl.1] at WH ⊢
  refine (hang_yes ak av ac a1 a2 a3 a4 ck cv cc n.K.length n.V.length p key kid _ _ w (Lib.hid WH) (Lib.hid S1) (Lib.hid S2) (Lib.hid S3) (Lib.hid S4) (Lib.hid CK) (Lib.hid CC) hp hk2 hc2 h.ok.k1).mono ?_
  rintro e w' ⟨⟨x, rfl, xa, xb, xc, xd, rfl, q1, q2, q3, q4, q5, q6, q7, q8⟩, hb⟩
  have eK : (hangN n (p : Int) key kid).K.map ukey = (n.K.map ukey).take p ++ [ukey key] ++ (n.K.map ukey).drop p := by rw [hhang]; simp [List.map_take, List.map_drop]
  have eC : (hangN n (p : Int) key kid).C.map ikid = (n.C.map ikid).take (p + 1) ++ [ikid kid] ++ (n.C.map ikid).drop (p + 1) := by rw [hhang]; simp [List.map_take, List.map_drop]
  rw [← eK] at q1 q3
  rw [← eC] at q2 q5
  refine ⟨⟨xa, none, xb, xc, 0, xd, ?_, ⟨q1, ?_, q2, by simpa using q3, q4, ?_, Nat.zero_le _, by simpa using q5, q6, hok⟩, q7, (fun x hx => by cases hx), q8⟩, hb⟩
  · unfold nodV
    rw [← eK, ← eC, hhang]
    simp
  · rw [hhang]; exact .inl rfl
  · rw [hhang]; simp
end Go.Proofs.Ytkdcoipbdkmieaa
