/-
  Package node: Encode, of a leaf that is right.
-/
import Derived.Test.YtkdcoipbdkmieaaNodeE
import Derived.Test.YtkdcoipbdkmieaaBuild
import Derived.Test.YtkdcoipbdkmieaaShelf
namespace Go.Proofs.Ytkdcoipbdkmieaa
open Go.RowKit
set_option linter.unusedVariables false
set_option linter.unusedSimpArgs false
theorem own_below {w w' : World} {B : Nat} {e : TypeId} {v : Value} {n : Nat} {xs : List Value} (h : w.ownsRow B e 1 v n xs) (hb : Below w.heap.size w w') : w'.ownsRow B e 1 v n xs := by
  refine ⟨h.1, ?_⟩
  rcases h.2 with hx | ⟨g, cap, cur, hv, hbg, hh, r⟩
  · exact .inl hx
  · exact .inr ⟨g, cap, cur, hv, hbg, (hb.block g (Array.getElem?_eq_some_iff.1 hh).1).trans hh, r⟩
theorem bld_below {w w' : World} {T e : TypeId} {B b : Nat} {bs : List Value} (h : Lib.IsBuilder T e B b bs w) (hb : Below w.heap.size w w') : Lib.IsBuilder T e B b bs w' := by
  rcases h with ⟨h1, v, h2, h3, h4⟩ | ⟨h1, v, h2, h3, h4⟩
  · exact .inl ⟨h1, v, (hb.block b (Array.getElem?_eq_some_iff.1 h2).1).trans h2, own_below h3 hb, h4⟩
  · exact .inr ⟨h1, v, (hb.block b (Array.getElem?_eq_some_iff.1 h2).1).trans h2, own_below h3 hb, h4⟩
/-- The bytes of a leaf's first j keys. -/
def encJ (K : List Int) (V : List ByteArray) : Nat → List UInt8
  | 0 => [1]
  | j + 1 => encJ K V j ++ putL (K.getD j 0) 8 ++ (textL (V.getD j ByteArray.empty)).data.toList
theorem be_length (k n : Nat) : (M.be k n).length = k := by
  induction k generalizing n with
  | zero => rfl
  | succ k ih => simp [M.be, ih]
theorem putL_le (n : Int) : (putL n 8).length ≤ 8 := by
  unfold putL
  split
  · rw [be_length]; decide
  · exact Nat.zero_le _
theorem textL_le (s : ByteArray) : (textL s).size ≤ 256 := by
  unfold textL
  split
  · rw [Str_size]; simp; omega
  · exact Nat.zero_le _
theorem encJ_le (K : List Int) (V : List ByteArray) (j : Nat) : (encJ K V j).length ≤ 1 + 264 * j := by
  induction j with
  | zero => exact Nat.le_refl _
  | succ j ih =>
    have h1 := putL_le (K.getD j 0)
    have h2 := textL_le (V.getD j ByteArray.empty)
    simp only [encJ, List.length_append, size_list]
    omega
set_option maxHeartbeats 3200000 in
set_option maxRecDepth 20000 in
theorem encode_leaf (n : Nod) (ak av ac : Option Addr) (ck cv cc : Nat) (w : World) (h : NodR w n ak av ac ck cv cc) (hw : wholeB n = true) (hs : ∀ i (h : i + 1 < n.K.length), n.K[i] < n.K[i + 1]) (hv : ∀ v ∈ n.V, v.size ≤ 40) (h0 : n.leaf = true) (h1 : 0 < n.K.length) (hz : sizeN n ≤ 240) :
    Calls Try.prog 31 #[nodV n ak av ac ck cv cc] w fun e w' => e = .returned (.tuple #[.string (Str (encJ n.K n.V n.K.length)), .int .i64 0]) ∧ Below w.heap.size w w' := by
  have hwl := (wholeB_leaf h0).1 hw
  have RG := Lib.hid (fun w' (hb : Below w.heap.size w w') => right_yes n ak av ac ck cv cc w' (h.below hb) hw hs hv (by rw [List.eq_nil_of_length_eq_zero hwl.2]; intro c hc; cases hc) h0 h1 hz)
  have hk1 := h.ok.k1
  have hkb := h.ok.kb
  have HK0 := h.k
  have HV0 := h.v
  clear h hw hs hv hz
  obtain ⟨lf, K, V, C⟩ := n
  unfold nodV at *
  dsimp only at RG h0 h1 hwl hk1 hkb HK0 HV0 ⊢
  subst h0
  obtain ⟨lk, hlk⟩ : ∃ lk, K.length = lk := ⟨_, rfl⟩
  have hlv : V.length = lk := by rw [hwl.1, hlk]
  rw [hlk, hlv] at RG ⊢
  rw [hlk] at hk1
  generalize C.length = lc at *
  have b0 : Below w.heap.size w (w.alloc (.cells #[.bool true, .slice ak lk ck, .slice av lk cv, .slice ac lc cc] 26)) := below_made _ _
  have B0 := Lib.hid b0
  have HKB := Lib.hid hkb
  have HLE := Lib.hid (encJ_le K V)
  clear b0 hwl h1 hkb
  go_enter Try.func31, Try.ntmps31
  go_wp2_with fail
  refine (RG.out _ B0.out).mono ?_
  rintro e w1 ⟨rfl, b1⟩
  have X1 := Lib.hid (box_kept b1)
  have B1 := Lib.hid (box_below b1)
  clear b1 RG B0
  have FB := Lib.fresh_isBuilder 82 5 w1
  have bA : Below w1.heap.size w1 (w1.alloc (.cells #[.pointer none, .slice none 0 0] 82)) := below_made _ _
  have XA := Lib.hid ((bA.block _ (Array.getElem?_eq_some_iff.1 X1.out).1).trans X1.out)
  have y0 : (w1.alloc (.cells #[.pointer none, .slice none 0 0] 82)).cell? ⟨w.heap.size, 0, none⟩ = some (.bool true) := by rw [Go.Joins.cell_of_block XA.out]; rfl
  have FBH := Lib.hid FB
  have BA := Lib.hid bA
  clear FB bA
  go_wp2_with fail
  refine (write_any w1.heap.size w1.heap.size [] ⟨#[1]⟩ _ FBH.out (by decide) BA.out.size).mono ?_
  rintro e w2 ⟨rfl, h2, b2⟩
  have I2 : Lib.IsBuilder 82 5 w1.heap.size w1.heap.size (Lib.byteCells (encJ K V 0)) w2 := by
    rw [List.nil_append, Lib.strCells_eq] at h2
    exact .inr h2
  have B2 := Lib.hid (BA.out.trans b2)
  have I2H := Lib.hid I2
  have z1 : w2.cell? ⟨w.heap.size, 1, none⟩ = some (.slice ak lk ck) := by
    have X2 := (B2.out.block _ (Array.getElem?_eq_some_iff.1 X1.out).1).trans X1.out
    rw [Go.Joins.cell_of_block X2]; rfl
  clear h2 b2 I2 y0
  go_wp2_with fail
  go_loopw [26] (fun i wr => ∃ j : Nat, j ≤ lk ∧ i = .int .i64 (j : Int) ∧ Below w1.heap.size w1 wr ∧ Lib.IsBuilder 82 5 w1.heap.size w1.heap.size (Lib.byteCells (encJ K V j)) wr) (fun i _ => lk + 1 - (intOf i).toNat)
  case atStart => exact ⟨0, Nat.zero_le _, rfl, B2.out, I2H.out⟩
  case round =>
    obtain ⟨j, hj, rfl, hb, hI⟩ := hrel
    have HB := Lib.hid hb
    have HI := Lib.hid hI
    clear hI
    by_cases hlt : j < lk
    · have hji : (j : Int) < (lk : Int) := by omega
      have hjl : j < (K.map ukey).length := by rw [List.length_map]; omega
      have hjv : j < (V.map Value.string).length := by rw [List.length_map]; omega
      obtain ⟨b, off, rfl, hbl, zk0⟩ := HK0.at j hjl
      obtain ⟨b', off', rfl, hbl', zv0⟩ := HV0.at j hjv
      have zk := (hb.cell (p := ⟨b, off + j, none⟩) (Nat.lt_of_lt_of_le hbl B1.out.size)).trans ((B1.out.cell (p := ⟨b, off + j, none⟩) hbl).trans zk0)
      have zv1 := (B1.out.cell (p := ⟨b', off' + j, none⟩) hbl').trans zv0
      have e1 : (K.map ukey)[j] = .int .u64 (K.getD j 0) := by rw [List.getElem_map, List.getD_eq_getElem?_getD, List.getElem?_eq_getElem (by omega)]; rfl
      have e2 : (V.map Value.string)[j] = .string (V.getD j ByteArray.empty) := by rw [List.getElem_map, List.getD_eq_getElem?_getD, List.getElem?_eq_getElem (by omega)]; rfl
      rw [e1] at zk
      rw [e2] at zv1
      have ZV1 := Lib.hid zv1
      have hkj : 0 ≤ K.getD j 0 := by
        rw [List.getD_eq_getElem?_getD, List.getElem?_eq_getElem (by omega)]
        exact (HKB.out _ (List.getElem_mem _)).1
      have hle := HLE.out j
      have hp8 := putL_le (K.getD j 0)
      have ht8 := textL_le (V.getD j ByteArray.empty)
      have ES : Hid (encJ K V (j + 1) = encJ K V j ++ putL (K.getD j 0) 8 ++ (textL (V.getD j ByteArray.empty)).data.toList) := Lib.hid rfl
      clear e1 e2 zk0 zv0 zv1
      generalize K.getD j 0 = kx at *
      generalize V.getD j ByteArray.empty = vx at *
      have XR := (hb.block _ (Array.getElem?_eq_some_iff.1 X1.out).1).trans X1.out
      have XRH := Lib.hid XR
      clear XR hb
      go_wp2_with fail
      refine (number_is kx 8 _ _ hkj rfl).mono ?_
      rintro e w3 ⟨rfl, b3⟩
      have I3 := Lib.hid (bld_below HI.out b3)
      have B3 := Lib.hid (chain HB.out b3)
      clear b3 zk hbl
      go_wp2_with fail
      refine (write_any w1.heap.size w1.heap.size _ _ _ I3.out (by rw [Lib.byteCells_length, Str_size]; omega) B3.out.size).mono ?_
      rintro e w4 ⟨rfl, h4, b4⟩
      have B4 := Lib.hid (B3.out.trans b4)
      have I4 : Hid (Lib.IsBuilder 82 5 w1.heap.size w1.heap.size (Lib.byteCells (encJ K V j ++ putL kx 8)) w4) := Lib.hid (by
        rw [Lib.strCells_eq, Str_list, ← Lib.byteCells_append] at h4
        exact .inr h4)
      have X4 := (B4.out.block _ (Array.getElem?_eq_some_iff.1 X1.out).1).trans X1.out
      have u0 : w4.cell? ⟨w.heap.size, 0, none⟩ = some (.bool true) := by rw [Go.Joins.cell_of_block X4]; rfl
      have u2 : w4.cell? ⟨w.heap.size, 2, none⟩ = some (.slice (some ⟨b', off', none⟩) lk cv) := by rw [Go.Joins.cell_of_block X4]; rfl
      clear X4 h4 b4
      have zv4 : w4.cell? ⟨b', off' + j, none⟩ = some (.string vx) := (B4.out.cell (p := ⟨b', off' + j, none⟩) (Nat.lt_of_lt_of_le hbl' B1.out.size)).trans ZV1.out
      go_wp2_with fail
      refine (text_any vx _).mono ?_
      rintro e w5 ⟨rfl, b5⟩
      have I5 := Lib.hid (bld_below I4.out b5)
      have B5 := Lib.hid (chain B4.out b5)
      clear b5 zv4 u0 u2
      go_wp2_with fail
      refine (write_any w1.heap.size w1.heap.size _ _ _ I5.out (by rw [Lib.byteCells_length, List.length_append]; omega) B5.out.size).mono ?_
      rintro e w6 ⟨rfl, h6, b6⟩
      have B6 := Lib.hid (B5.out.trans b6)
      have I6 : Hid (Lib.IsBuilder 82 5 w1.heap.size w1.heap.size (Lib.byteCells (encJ K V (j + 1))) w6) := Lib.hid (by
        rw [Lib.strCells_eq, ← Lib.byteCells_append] at h6
        rw [ES.out]
        exact .inr h6)
      clear h6 b6
      go_wp2_with fail
      go_roundw
      case rel => exact ⟨j + 1, by omega, by go_num, B6.out, I6.out⟩
      case measure => simp [intOf]; omega
    · obtain rfl : j = lk := by omega
      have hji : ¬ (j : Int) < (j : Int) := by omega
      clear hb
      go_wp2_with fail
      refine (Try.Builder_String_any w1.heap.size w1.heap.size _ _ HI.out HB.out.size).mono ?_
      rintro e w3 ⟨rfl, b3⟩
      go_wp2_with fail
      go_ret2
      exact ⟨rfl, chain B1.out (HB.out.trans b3)⟩
end Go.Proofs.Ytkdcoipbdkmieaa
