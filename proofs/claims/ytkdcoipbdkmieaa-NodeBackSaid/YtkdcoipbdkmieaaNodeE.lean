/-
  Package node: rising, plain, Right, of what is right.
-/
import Derived.Test.YtkdcoipbdkmieaaNodeF
import Derived.Test.YtkdcoipbdkmieaaFlowKit
import Derived.Deep.DeepCutAuto
import Derived.Test.YtkdcoipbdkmieaaNum
import Derived.BigQuiet
import Derived.Deep.QuietTactic
namespace Go.Proofs.Ytkdcoipbdkmieaa
open Go.RowKit
set_option linter.unusedVariables false
set_option linter.unusedSimpArgs false
set_option maxHeartbeats 1600000 in
theorem rising_yes (K : List Int) (a : Option Addr) (c : Nat) (w : World) (h : Rd w a (K.map ukey)) (h1 : K.length ≤ 1000) (hs : ∀ i (h : i + 1 < K.length), K[i] < K[i + 1]) :
    Calls Try.prog 66 #[.slice a K.length c] w fun e w' => e = .returned (.bool true) ∧ Below w.heap.size w w' := by
  have HR := Lib.hid h
  have HS := Lib.hid hs
  obtain ⟨m, hm⟩ : ∃ m, K.length = m := ⟨_, rfl⟩
  rw [hm] at h1 ⊢
  clear h hs
  go_enter Try.func66, Try.ntmps66
  go_wp2_with fail
  go_loopw [3] (fun i wr => ∃ j q : Nat, j ≤ 1000 ∧ i = .int .i64 ((j : Int) + 1) ∧ wr = w.drewN q) (fun i _ => 1002 - (intOf i).toNat)
  case atStart => exact ⟨0, 0, by omega, rfl, rfl⟩
  case round =>
    obtain ⟨j, q, hj, rfl, rfl⟩ := hrel
    by_cases hlt : j + 1 < m
    · have hji : (j : Int) + 1 < (m : Int) := by omega
      have hji2 : (j : Int) < (m : Int) := by omega
      have hjl : j < (K.map ukey).length := by rw [List.length_map]; omega
      have hjl2 : j + 1 < (K.map ukey).length := by rw [List.length_map]; omega
      obtain ⟨b, off, hab, hb, z1⟩ := HR.out.at j hjl
      obtain ⟨b2, off2, hab2, _, z2⟩ := HR.out.at (j + 1) hjl2
      rw [hab] at hab2
      obtain ⟨rfl, rfl⟩ : b2 = b ∧ off2 = off := by
        have := Option.some.inj hab2
        exact ⟨(congrArg Addr.block this).symm, (congrArg Addr.off this).symm⟩
      subst hab
      have e1 : (K.map ukey)[j] = .int .u64 (K[j]'(by omega)) := by rw [List.getElem_map]; rfl
      have e2 : (K.map ukey)[j + 1] = .int .u64 (K[j + 1]'(by omega)) := by rw [List.getElem_map]; rfl
      rw [e1] at z1
      rw [e2] at z2
      have hlt2 := HS.out j (by omega)
      clear e1 e2 hab2 hb
      generalize K[j]'(by omega) = x at *
      generalize K[j + 1]'(by omega) = y at *
      have hge : ¬ (y ≤ x) := by omega
      have hw0 : IntKind.i64.wrap ((j : Int) + 1 - 1) = (j : Int) := by rw [IntKind.wrap_i64]; omega
      have hw1 : IntKind.i64.wrap (j : Int) = (j : Int) := by rw [IntKind.wrap_i64]; omega
      have ht1 : ((j : Int) + 1).toNat = j + 1 := by omega
      clear hlt2
      go_wp2_with fail
      go_quiet (fail)
      go_wp2_with fail
      go_roundw
      case rel => exact ⟨j + 1, _, by omega, by go_num, rfl⟩
      case measure => simp [intOf]; omega
    · have hji : ¬ (j : Int) + 1 < (m : Int) := by omega
      go_wp2_with fail
      go_ret
      exact ⟨rfl, drewN_below (Below.refl _ _) _⟩
set_option maxHeartbeats 3200000 in
set_option maxRecDepth 20000 in
theorem plain_yes (n : Nod) (ak av ac : Option Addr) (ck cv cc : Nat) (w : World) (h : NodR w n ak av ac ck cv cc) (hw : wholeB n = true) (hs : ∀ i (h : i + 1 < n.K.length), n.K[i] < n.K[i + 1]) (hv : ∀ v ∈ n.V, v.size ≤ 40) (hc : ∀ c ∈ n.C, 2 ≤ c ∧ c < 640) :
    Calls Try.prog 58 #[nodV n ak av ac ck cv cc] w fun e w' => e = .returned (.bool true) ∧ Below w.heap.size w w' := by
  have WH := Lib.hid (fun w => whole_any n ak av ac ck cv cc w h.ok true hw)
  have RI := Lib.hid (fun w' (hb : Below w.heap.size w w') => rising_yes n.K ak ck w' (h.k.below hb) h.ok.k1 hs)
  have hv1 := h.ok.v1
  have hc1 := h.ok.c1
  have HV0 := h.v
  have HC0 := h.c
  clear h hw hs
  obtain ⟨lf, K, V, C⟩ := n
  unfold nodV at *
  dsimp only at WH RI hv1 hc1 HV0 HC0 hv hc ⊢
  obtain ⟨lk, hlk⟩ : ∃ lk, K.length = lk := ⟨_, rfl⟩
  obtain ⟨lv, hlv⟩ : ∃ lv, V.length = lv := ⟨_, rfl⟩
  obtain ⟨lc, hlc⟩ : ∃ lc, C.length = lc := ⟨_, rfl⟩
  rw [hlk, hlv, hlc] at WH ⊢
  rw [hlk] at RI
  rw [hlv] at hv1
  rw [hlc] at hc1
  obtain ⟨W, hW⟩ : ∃ W, w.alloc (.cells #[.bool lf, .slice ak lk ck, .slice av lv cv, .slice ac lc cc] 26) = W := ⟨_, rfl⟩
  have bel : Below w.heap.size w W := by rw [← hW]; exact below_made _ _
  have XA : W.heap[w.heap.size]? = some (.cells #[.bool lf, .slice ak lk ck, .slice av lv cv, .slice ac lc cc] 26) := by rw [← hW]; exact heap_alloc_new w _
  have x0 : W.cell? ⟨w.heap.size, 0, none⟩ = some (.bool lf) := by rw [Go.Joins.cell_of_block XA]; rfl
  have x1 : W.cell? ⟨w.heap.size, 1, none⟩ = some (.slice ak lk ck) := by rw [Go.Joins.cell_of_block XA]; rfl
  have x2 : W.cell? ⟨w.heap.size, 2, none⟩ = some (.slice av lv cv) := by rw [Go.Joins.cell_of_block XA]; rfl
  have x3 : W.cell? ⟨w.heap.size, 3, none⟩ = some (.slice ac lc cc) := by rw [Go.Joins.cell_of_block XA]; rfl
  have HV := Lib.hid (HV0.below bel)
  have HC := Lib.hid (HC0.below bel)
  have HVB := Lib.hid hv
  have HCB := Lib.hid hc
  have BEL := Lib.hid bel
  have XH := Lib.hid XA
  have HW := Lib.hid hW
  clear bel XA hW HV0 HC0 hv hc
  go_enter Try.func58, Try.ntmps58
  go_upto_region 1 with fail
  rw [HW.out]
  go_wp2_with fail
  go_loop [10] (fun i => ∃ j : Nat, j ≤ lv ∧ i = .int .i64 (j : Int)) (fun i => lv + 1 - (intOf i).toNat)
  case atStart => exact ⟨0, Nat.zero_le _, rfl⟩
  case round =>
    obtain ⟨j, hj, rfl⟩ := hrel
    by_cases hlt : j < lv
    · have hji : (j : Int) < (lv : Int) := by omega
      have hjl : j < (V.map Value.string).length := by rw [List.length_map]; omega
      obtain ⟨b, off, rfl, hb, z⟩ := HV.out.at j hjl
      have e1 : (V.map Value.string)[j] = .string (V[j]'(by omega)) := by rw [List.getElem_map]
      rw [e1] at z
      have hz := HVB.out (V[j]'(by omega)) (List.getElem_mem _)
      clear e1 hb
      generalize V[j]'(by omega) = x at *
      have hz2 : ¬ (40 : Int) < (x.size : Int) := by omega
      clear hz
      go_wp2_with fail
      go_round
      case rel => exact ⟨j + 1, by omega, by go_num⟩
      case measure => simp [intOf]; omega
    · obtain rfl : j = lv := by omega
      have hji : ¬ (j : Int) < (j : Int) := by omega
      go_wp2_with fail
      go_loop [21] (fun i => ∃ k : Nat, k ≤ lc ∧ i = .int .i64 (k : Int)) (fun i => lc + 1 - (intOf i).toNat)
      case atStart => exact ⟨0, Nat.zero_le _, rfl⟩
      case round =>
        obtain ⟨k, hk, rfl⟩ := hrel
        by_cases hlt2 : k < lc
        · have hki : (k : Int) < (lc : Int) := by omega
          have hkl : k < (C.map ikid).length := by rw [List.length_map]; omega
          obtain ⟨b, off, rfl, hb, z⟩ := HC.out.at k hkl
          have e1 : (C.map ikid)[k] = .int .i64 (C[k]'(by omega)) := by rw [List.getElem_map]; rfl
          rw [e1] at z
          have hz := HCB.out (C[k]'(by omega)) (List.getElem_mem _)
          clear e1 hb
          generalize C[k]'(by omega) = x at *
          have hz1 : ¬ x < 2 := by omega
          have hz2 : ¬ 640 ≤ x := by omega
          clear hz
          go_wp2_with fail
          go_round
          case rel => exact ⟨k + 1, by omega, by go_num⟩
          case measure => simp [intOf]; omega
        · obtain rfl : k = lc := by omega
          have hki : ¬ (k : Int) < (k : Int) := by omega
          go_wp2_with fail
          refine (WH.out _).mono ?_
          rintro e w1 ⟨rfl, b1⟩
          have B1 := Lib.hid (chain BEL.out b1)
          have y1 : w1.cell? ⟨w.heap.size, 1, none⟩ = some (.slice ak lk ck) := by
            have X1 : w1.heap[w.heap.size]? = _ := (b1.block _ (Array.getElem?_eq_some_iff.1 XH.out).1).trans XH.out
            rw [Go.Joins.cell_of_block X1]; rfl
          clear b1
          go_wp2_with fail
          refine (RI.out _ B1.out).mono ?_
          rintro e w2 ⟨rfl, b2⟩
          go_wp2_with fail
          go_ret
          exact ⟨rfl, chain B1.out b2⟩
set_option maxHeartbeats 1600000 in
set_option maxRecDepth 20000 in
/-- What Right asks. -/
theorem right_yes (n : Nod) (ak av ac : Option Addr) (ck cv cc : Nat) (w : World) (h : NodR w n ak av ac ck cv cc) (hw : wholeB n = true) (hs : ∀ i (h : i + 1 < n.K.length), n.K[i] < n.K[i + 1]) (hv : ∀ v ∈ n.V, v.size ≤ 40) (hc : ∀ c ∈ n.C, 2 ≤ c ∧ c < 640) (h0 : n.leaf = true) (h1 : 0 < n.K.length) (hz : sizeN n ≤ 240) :
    Calls Try.prog 47 #[nodV n ak av ac ck cv cc] w fun e w' => e = .returned (.bool true) ∧ Below w.heap.size w w' := by
  obtain ⟨z, hzz⟩ : ∃ z, sizeN n = z := ⟨_, rfl⟩
  have PL := Lib.hid (fun w' (hb : Below w.heap.size w w') => plain_yes n ak av ac ck cv cc w' (h.below hb) hw hs hv hc)
  have SZ := Lib.hid (fun w' (hb : Below w.heap.size w w') => size_is n ak av ac ck cv cc w' (h.below hb) z (Lib.hid hzz) hw)
  rw [hzz] at hz
  clear h hw hs hv hc hzz
  obtain ⟨lf, K, V, C⟩ := n
  unfold nodV at *
  dsimp only at PL SZ h0 h1 ⊢
  subst h0
  generalize K.length = lk at *
  generalize V.length = lv at *
  generalize C.length = lc at *
  have h1i : (0 : Int) < (lk : Int) := by omega
  have hzi : (z : Int) ≤ 240 := by omega
  have b0 : Below w.heap.size w (w.alloc (.cells #[.bool true, .slice ak lk ck, .slice av lv cv, .slice ac lc cc] 26)) := below_made _ _
  have B0 := Lib.hid b0
  clear b0 h1 hz
  go_enter Try.func47, Try.ntmps47
  go_wp2_with fail
  refine (PL.out _ B0.out).mono ?_
  rintro e w1 ⟨rfl, b1⟩
  have X1 := box_kept b1
  have B1 := Lib.hid (box_below b1)
  have y0 : w1.cell? ⟨w.heap.size, 0, none⟩ = some (.bool true) := by rw [Go.Joins.cell_of_block X1]; rfl
  have y1 : w1.cell? ⟨w.heap.size, 1, none⟩ = some (.slice ak lk ck) := by rw [Go.Joins.cell_of_block X1]; rfl
  have y2 : w1.cell? ⟨w.heap.size, 2, none⟩ = some (.slice av lv cv) := by rw [Go.Joins.cell_of_block X1]; rfl
  have y3 : w1.cell? ⟨w.heap.size, 3, none⟩ = some (.slice ac lc cc) := by rw [Go.Joins.cell_of_block X1]; rfl
  clear X1 b1
  go_wp2_with fail
  refine (SZ.out _ B1.out).mono ?_
  rintro e w2 ⟨rfl, b2⟩
  go_wp2_with fail
  go_ret
  exact ⟨rfl, chain B1.out b2⟩
/-- A number that has room. -/
theorem number_is (n size : Int) (x : ByteArray) (w : World) (h0 : 0 ≤ n) (hx : Str (putL n size) = x) :
    Calls Try.prog 49 #[.int .u64 n, .int .i64 size] w fun e w' => e = .returned (.string x) ∧ Below w.heap.size w w' := by
  subst hx
  have PA := Lib.hid (fun w => put_any n size w h0)
  generalize Str (putL n size) = x at *
  generalize putE n size = y at *
  go_enter Try.func49, Try.ntmps49
  go_wp2_with fail
  refine (PA.out _).mono ?_
  rintro e w1 ⟨rfl, b1⟩
  go_wp2_with fail
  go_ret
  exact ⟨rfl, b1⟩
end Go.Proofs.Ytkdcoipbdkmieaa
