/-
  Package node: Encode, of a branch that is right, and of what is not.
-/
import Derived.Test.YtkdcoipbdkmieaaNodePl
namespace Go.Proofs.Ytkdcoipbdkmieaa
open Go.RowKit
set_option linter.unusedVariables false
set_option linter.unusedSimpArgs false
theorem put2_len (n : Int) : (putL n 2).length ≤ 2 := by
  unfold putL
  split
  · rw [be_length]; decide
  · exact Nat.zero_le _
theorem encBr_le (K C : List Int) (j : Nat) : (encBr K C j).length ≤ 3 + 10 * j := by
  induction j with
  | zero => have := put2_len (C.getD 0 0); simp only [encBr, List.length_cons]; omega
  | succ j ih =>
    have h1 := putL_le (K.getD j 0)
    have h2 := put2_len (C.getD (j + 1) 0)
    simp only [encBr, List.length_append]
    omega
set_option maxHeartbeats 3200000 in
set_option maxRecDepth 20000 in
theorem encode_branch (n : Nod) (ak av ac : Option Addr) (ck cv cc : Nat) (w : World) (h : NodR w n ak av ac ck cv cc) (hr : rightN n = true) (h0 : n.leaf = false) :
    Calls Try.prog 31 #[nodV n ak av ac ck cv cc] w fun e w' => e = .returned (.tuple #[.string (Str (encBr n.K n.C n.K.length)), .int .i64 0]) ∧ Below w.heap.size w w' := by
  have hr2 := (rightN_iff n).1 hr
  have hw := hr2.2.1
  have hcb := ((plainB_iff n).1 hr2.1).2.2
  have hwl := (wholeB_branch h0).1 hw
  have RG := Lib.hid (fun w' (hb : Below w.heap.size w w') => right_any n ak av ac ck cv cc w' (h.below hb) true (Lib.hid hr))
  have hk1 := h.ok.k1
  have hkb := h.ok.kb
  have HK0 := h.k
  have HV0 := h.c
  clear h hw hr hr2
  obtain ⟨lf, K, V, C⟩ := n
  unfold nodV at *
  dsimp only at RG h0 hwl hk1 hkb HK0 HV0 hcb ⊢
  subst h0
  obtain ⟨lk, hlk⟩ : ∃ lk, K.length = lk := ⟨_, rfl⟩
  have hlv : C.length = lk + 1 := by rw [hwl.1, hlk]
  rw [hlk, hlv] at RG ⊢
  rw [hlk] at hk1
  generalize V.length = lv at *
  have b0 : Below w.heap.size w (w.alloc (.cells #[.bool false, .slice ak lk ck, .slice av lv cv, .slice ac (lk + 1) cc] 26)) := below_made _ _
  have B0 := Lib.hid b0
  have HKB := Lib.hid hkb
  have HLE := Lib.hid (encBr_le K C)
  have HCB := Lib.hid hcb
  have hc0 : 0 < (C.map ikid).length := by rw [List.length_map]; omega
  have HC0 : Hid (∀ w', Below w.heap.size w w' → ∃ b off x, ac = some ⟨b, off, none⟩ ∧ 2 ≤ x ∧ x < 640 ∧ C.getD 0 0 = x ∧ w'.cell? ⟨b, off, none⟩ = some (.int .i64 x)) := Lib.hid (fun w' hb => by
    obtain ⟨b, off, q1, q2, q3⟩ := (HV0.below hb).at 0 hc0
    have hm := hcb C[0] (List.getElem_mem _)
    refine ⟨b, off, C[0], q1, hm.1, hm.2, by rw [List.getD_eq_getElem?_getD, List.getElem?_eq_getElem (by omega)]; rfl, ?_⟩
    have : off + 0 = off := rfl
    rw [this] at q3
    rw [q3, List.getElem_map]; rfl)
  clear b0 hwl hkb hcb hc0
  go_enter Try.func31, Try.ntmps31
  go_wp2_with fail
  refine (RG.out _ B0.out).mono ?_
  rintro e w1 ⟨rfl, b1⟩
  have X1 := Lib.hid (box_kept b1)
  have B1 := Lib.hid (box_below b1)
  clear b1 RG B0
  have FB := Lib.fresh_isBuilder 82 5 w1
  have bA : Below w1.heap.size w1 (w1.alloc (.cells #[.pointer none, .slice none 0 0] 82)) := below_made _ _
  have XA := Lib.hid ((bA.block _ (Array.getElem?_eq_some_iff.1 X1.out).1).trans X1.out)
  have y0 : (w1.alloc (.cells #[.pointer none, .slice none 0 0] 82)).cell? ⟨w.heap.size, 0, none⟩ = some (.bool false) := by rw [Go.Joins.cell_of_block XA.out]; rfl
  have FBH := Lib.hid FB
  have BA := Lib.hid bA
  clear FB bA
  have y3 : (w1.alloc (.cells #[.pointer none, .slice none 0 0] 82)).cell? ⟨w.heap.size, 3, none⟩ = some (.slice ac (lk + 1) cc) := by rw [Go.Joins.cell_of_block XA.out]; rfl
  obtain ⟨b0, off0, x0, rfl, hx1, hx2, hx3, hx4⟩ := HC0.out _ (chain B1.out BA.out)
  have hxw : IntKind.u64.wrap x0 = x0 := by rw [IntKind.wrap_u64]; omega
  have hlt0 : (0 : Int) < ((lk + 1 : Nat) : Int) := by omega
  have hlt0' : (0 : Int) < (lk : Int) + 1 := by omega
  have HX3 := Lib.hid hx3
  have HX12 := Lib.hid (And.intro hx1 hx2)
  clear hx3 HC0
  go_wp2_with fail
  refine (number_is x0 2 _ _ (by omega) rfl).mono ?_
  rintro e w1b ⟨rfl, b1b⟩
  have BAb := Lib.hid (chain BA.out b1b)
  have FB2 := Lib.hid (bld_below FBH.out b1b)
  have hpl := put2_len x0
  have hadd : (⟨#[2]⟩ : ByteArray) ++ Str (putL x0 2) = Str (2 :: putL x0 2) := by apply eq_of_data; simp [append_list, Str_list]
  have hp2 : (Str (2 :: putL x0 2)).size ≤ 3 := by rw [Str_size]; simp; omega
  obtain ⟨p2, hp2e⟩ : ∃ p2, Str (putL x0 2) = p2 := ⟨_, rfl⟩
  have hp2z : p2.size ≤ 2 := by rw [← hp2e, Str_size]; omega
  have hs1 : (9223372036854775807 < 1 + p2.size) = False := by simp; omega
  have hs2 : (9223372036854775807 < (⟨#[2]⟩ : ByteArray).size + p2.size) = False := by simp only [show (⟨#[2]⟩ : ByteArray).size = 1 from rfl]; exact hs1
  rw [hp2e] at hadd ⊢
  clear hp2e
  clear b1b FBH hx4 y0 y3 hx1 hx2
  go_wp2_with fail
  first | rw [hadd] | skip
  refine (write_any w1.heap.size w1.heap.size [] (Str (2 :: putL x0 2)) _ FB2.out (by simp only [List.length_nil]; omega) BAb.out.size).mono ?_
  rintro e w2 ⟨rfl, h2, b2⟩
  have I2 : Lib.IsBuilder 82 5 w1.heap.size w1.heap.size (Lib.byteCells (encBr K C 0)) w2 := by
    rw [List.nil_append, Lib.strCells_eq] at h2
    unfold encBr
    rw [HX3.out]
    rw [Str_list] at h2
    exact .inr h2
  have B2 := Lib.hid (BAb.out.trans b2)
  have I2H := Lib.hid I2
  have z1 : w2.cell? ⟨w.heap.size, 1, none⟩ = some (.slice ak lk ck) := by
    have X2 := (B2.out.block _ (Array.getElem?_eq_some_iff.1 X1.out).1).trans X1.out
    rw [Go.Joins.cell_of_block X2]; rfl
  clear h2 b2 I2
  go_wp2_with fail
  go_loopw [26] (fun i wr => ∃ j : Nat, j ≤ lk ∧ i = .int .i64 (j : Int) ∧ Below w1.heap.size w1 wr ∧ Lib.IsBuilder 82 5 w1.heap.size w1.heap.size (Lib.byteCells (encBr K C j)) wr) (fun i _ => lk + 1 - (intOf i).toNat)
  case atStart => exact ⟨0, Nat.zero_le _, rfl, B2.out, I2H.out⟩
  case round =>
    obtain ⟨j, hj, rfl, hb, hI⟩ := hrel
    have HB := Lib.hid hb
    have HI := Lib.hid hI
    clear hI
    by_cases hlt : j < lk
    · have hji : (j : Int) < (lk : Int) := by omega
      have hjl : j < (K.map ukey).length := by rw [List.length_map]; omega
      have hjv : j + 1 < (C.map ikid).length := by rw [List.length_map]; omega
      obtain ⟨b, off, rfl, hbl, zk0⟩ := HK0.at j hjl
      obtain ⟨b', off', he', hbl', zv0⟩ := HV0.at (j + 1) hjv
      cases he'
      have zk := (hb.cell (p := ⟨b, off + j, none⟩) (Nat.lt_of_lt_of_le hbl B1.out.size)).trans ((B1.out.cell (p := ⟨b, off + j, none⟩) hbl).trans zk0)
      have zv1 := (B1.out.cell (p := ⟨b0, off0 + (j + 1), none⟩) hbl').trans zv0
      have e1 : (K.map ukey)[j] = .int .u64 (K.getD j 0) := by rw [List.getElem_map, List.getD_eq_getElem?_getD, List.getElem?_eq_getElem (by omega)]; rfl
      have e2 : (C.map ikid)[j + 1] = .int .i64 (C.getD (j + 1) 0) := by rw [List.getElem_map, List.getD_eq_getElem?_getD, List.getElem?_eq_getElem (by omega)]; rfl
      have hcx : 2 ≤ C.getD (j + 1) 0 ∧ C.getD (j + 1) 0 < 640 := by
        rw [List.getD_eq_getElem?_getD, List.getElem?_eq_getElem (by omega)]
        exact HCB.out _ (List.getElem_mem _)
      rw [e1] at zk
      rw [e2] at zv1
      have ZV1 := Lib.hid zv1
      have hkj : 0 ≤ K.getD j 0 := by
        rw [List.getD_eq_getElem?_getD, List.getElem?_eq_getElem (by omega)]
        exact (HKB.out _ (List.getElem_mem _)).1
      have hle := HLE.out j
      have hp8 := putL_le (K.getD j 0)
      have ht8 := put2_len (C.getD (j + 1) 0)
      have ES : Hid (encBr K C (j + 1) = encBr K C j ++ putL (K.getD j 0) 8 ++ putL (C.getD (j + 1) 0) 2) := Lib.hid rfl
      clear e1 e2 zk0 zv0 zv1
      generalize K.getD j 0 = kx at *
      generalize C.getD (j + 1) 0 = vx at *
      have XR := (hb.block _ (Array.getElem?_eq_some_iff.1 X1.out).1).trans X1.out
      have XRH := Lib.hid XR
      clear XR hb
      go_wp2_with fail
      refine (number_is kx 8 _ _ hkj rfl).mono ?_
      rintro e w3 ⟨rfl, b3⟩
      have I3 := Lib.hid (bld_below HI.out b3)
      have B3 := Lib.hid (chain HB.out b3)
      clear b3 zk hbl
      go_wp2_with fail
      refine (write_any w1.heap.size w1.heap.size _ _ _ I3.out (by rw [Lib.byteCells_length, Str_size]; omega) B3.out.size).mono ?_
      rintro e w4 ⟨rfl, h4, b4⟩
      have B4 := Lib.hid (B3.out.trans b4)
      have I4 : Hid (Lib.IsBuilder 82 5 w1.heap.size w1.heap.size (Lib.byteCells (encBr K C j ++ putL kx 8)) w4) := Lib.hid (by
        rw [Lib.strCells_eq, Str_list, ← Lib.byteCells_append] at h4
        exact .inr h4)
      have X4 := (B4.out.block _ (Array.getElem?_eq_some_iff.1 X1.out).1).trans X1.out
      have u0 : w4.cell? ⟨w.heap.size, 0, none⟩ = some (.bool false) := by rw [Go.Joins.cell_of_block X4]; rfl
      have u2 : w4.cell? ⟨w.heap.size, 3, none⟩ = some (.slice (some ⟨b0, off0, none⟩) (lk + 1) cc) := by rw [Go.Joins.cell_of_block X4]; rfl
      clear X4 h4 b4
      have zv4 : w4.cell? ⟨b0, off0 + (j + 1), none⟩ = some (.int .i64 vx) := (B4.out.cell (p := ⟨b0, off0 + (j + 1), none⟩) (Nat.lt_of_lt_of_le hbl' B1.out.size)).trans ZV1.out
      have hvw : IntKind.u64.wrap vx = vx := by rw [IntKind.wrap_u64]; omega
      have hj1w : IntKind.i64.wrap ((j : Int) + 1) = ((j + 1 : Nat) : Int) := by rw [IntKind.wrap_i64]; omega
      have hj1l : ((j + 1 : Nat) : Int) < ((lk + 1 : Nat) : Int) := by omega
      go_wp2_with fail
      refine (number_is vx 2 _ _ (by omega) rfl).mono ?_
      rintro e w5 ⟨rfl, b5⟩
      have I5 := Lib.hid (bld_below I4.out b5)
      have B5 := Lib.hid (chain B4.out b5)
      clear b5 zv4 u0 u2
      go_wp2_with fail
      refine (write_any w1.heap.size w1.heap.size _ _ _ I5.out (by rw [Lib.byteCells_length, List.length_append, Str_size]; omega) B5.out.size).mono ?_
      rintro e w6 ⟨rfl, h6, b6⟩
      have B6 := Lib.hid (B5.out.trans b6)
      have I6 : Hid (Lib.IsBuilder 82 5 w1.heap.size w1.heap.size (Lib.byteCells (encBr K C (j + 1))) w6) := Lib.hid (by
        rw [Lib.strCells_eq, Str_list, ← Lib.byteCells_append] at h6
        rw [ES.out]
        exact .inr h6)
      clear h6 b6
      go_wp2_with fail
      go_roundw
      case rel => exact ⟨j + 1, by omega, by go_num, B6.out, I6.out⟩
      case measure => simp [intOf]; omega
    · obtain rfl : j = lk := by omega
      have hji : ¬ (j : Int) < (j : Int) := by omega
      clear hb
      go_wp2_with fail
      refine (Try.Builder_String_any w1.heap.size w1.heap.size _ _ HI.out HB.out.size).mono ?_
      rintro e w3 ⟨rfl, b3⟩
      go_wp2_with fail
      go_ret2
      exact ⟨rfl, chain B1.out (HB.out.trans b3)⟩
set_option maxHeartbeats 800000 in
theorem encode_no (n : Nod) (ak av ac : Option Addr) (ck cv cc : Nat) (w : World) (h : NodR w n ak av ac ck cv cc) (hr : rightN n = false) :
    Calls Try.prog 31 #[nodV n ak av ac ck cv cc] w fun e w' => e = .returned (.tuple #[.string ⟨#[]⟩, .int .i64 1]) ∧ Below w.heap.size w w' := by
  have RG := Lib.hid (fun w' (hb : Below w.heap.size w w') => right_any n ak av ac ck cv cc w' (h.below hb) false (Lib.hid hr))
  clear h hr
  obtain ⟨lf, K, V, C⟩ := n
  unfold nodV at *
  dsimp only at RG ⊢
  generalize K.length = lk at *
  generalize V.length = lv at *
  generalize C.length = lc at *
  have b0 : Below w.heap.size w (w.alloc (.cells #[.bool lf, .slice ak lk ck, .slice av lv cv, .slice ac lc cc] 26)) := below_made _ _
  have B0 := Lib.hid b0
  clear b0
  go_enter Try.func31, Try.ntmps31
  go_wp2_with fail
  refine (RG.out _ B0.out).mono ?_
  rintro e w1 ⟨rfl, b1⟩
  have B1 := Lib.hid (box_below b1)
  clear b1
  go_wp2_with fail
  go_ret2
  exact ⟨rfl, B1.out⟩
/-- Encode, of a node that is right. -/
theorem encode_yes (n : Nod) (ak av ac : Option Addr) (ck cv cc : Nat) (w : World) (h : NodR w n ak av ac ck cv cc) (hr : rightN n = true) :
    Calls Try.prog 31 #[nodV n ak av ac ck cv cc] w fun e w' => e = .returned (.tuple #[.string (encN n), .int .i64 0]) ∧ Below w.heap.size w w' := by
  cases hl : n.leaf with
  | false =>
    have := encode_branch n ak av ac ck cv cc w h hr hl
    unfold encN
    rw [hl]; exact this
  | true =>
    have hr2 := (rightN_iff n).1 hr
    have hp := (plainB_iff n).1 hr2.1
    have := encode_leaf n ak av ac ck cv cc w h hr2.2.1 hp.1 hp.2.1 hl (hr2.2.2.1 hl) hr2.2.2.2
    unfold encN
    rw [hl]; exact this
end Go.Proofs.Ytkdcoipbdkmieaa
