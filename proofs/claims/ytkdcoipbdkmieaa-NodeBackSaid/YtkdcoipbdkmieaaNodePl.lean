/-
  Package node: rising, plain, Right, of any node.
-/
import Derived.Test.YtkdcoipbdkmieaaNodeDn
namespace Go.Proofs.Ytkdcoipbdkmieaa
open Go.RowKit
set_option linter.unusedVariables false
set_option linter.unusedSimpArgs false
set_option maxHeartbeats 1600000 in
theorem rising_no (K : List Int) (a : Option Addr) (c : Nat) (w : World) (h : Rd w a (K.map ukey)) (h1 : K.length ≤ 1000) (hs : ¬ ∀ i (h : i + 1 < K.length), K[i] < K[i + 1]) :
    Calls Try.prog 66 #[.slice a K.length c] w fun e w' => e = .returned (.bool false) ∧ Below w.heap.size w w' := by
  have HR := Lib.hid h
  have HS := Lib.hid hs
  obtain ⟨m, hm⟩ : ∃ m, K.length = m := ⟨_, rfl⟩
  rw [hm] at h1 ⊢
  clear h hs
  go_enter Try.func66, Try.ntmps66
  go_wp2_with fail
  go_loopw [3] (fun i wr => ∃ j q : Nat, j ≤ 1000 ∧ i = .int .i64 ((j : Int) + 1) ∧ wr = w.drewN q ∧ ∀ i (h : i + 1 < K.length), i < j → K[i] < K[i + 1]) (fun i _ => 1002 - (intOf i).toNat)
  case atStart => exact ⟨0, 0, by omega, rfl, rfl, fun i h hi => absurd hi (Nat.not_lt_zero _)⟩
  case round =>
    obtain ⟨j, q, hj, rfl, rfl, hall⟩ := hrel
    have HA := Lib.hid hall
    clear hall
    by_cases hlt : j + 1 < m
    · have hji : (j : Int) + 1 < (m : Int) := by omega
      have hji2 : (j : Int) < (m : Int) := by omega
      have hjl : j < (K.map ukey).length := by rw [List.length_map]; omega
      have hjl2 : j + 1 < (K.map ukey).length := by rw [List.length_map]; omega
      obtain ⟨b, off, hab, hb, z1⟩ := HR.out.at j hjl
      obtain ⟨b2, off2, hab2, _, z2⟩ := HR.out.at (j + 1) hjl2
      rw [hab] at hab2
      obtain ⟨rfl, rfl⟩ : b2 = b ∧ off2 = off := by
        have := Option.some.inj hab2
        exact ⟨(congrArg Addr.block this).symm, (congrArg Addr.off this).symm⟩
      subst hab
      have e1 : (K.map ukey)[j] = .int .u64 (K[j]'(by omega)) := by rw [List.getElem_map]; rfl
      have e2 : (K.map ukey)[j + 1] = .int .u64 (K[j + 1]'(by omega)) := by rw [List.getElem_map]; rfl
      rw [e1] at z1
      rw [e2] at z2
      have HX : Hid (K[j]'(by omega) < K[j + 1]'(by omega) → ∀ i (h : i + 1 < K.length), i < j + 1 → K[i] < K[i + 1]) := Lib.hid (fun hx i h hi => by
        by_cases he : i = j
        · subst he; exact hx
        · exact HA.out i h (by omega))
      clear e1 e2 hab2 hb
      generalize K[j]'(by omega) = x at *
      generalize K[j + 1]'(by omega) = y at *
      have hw0 : IntKind.i64.wrap ((j : Int) + 1 - 1) = (j : Int) := by rw [IntKind.wrap_i64]; omega
      have hw1 : IntKind.i64.wrap (j : Int) = (j : Int) := by rw [IntKind.wrap_i64]; omega
      have ht1 : ((j : Int) + 1).toNat = j + 1 := by omega
      by_cases hge : y ≤ x
      · clear HX HA HS
        go_wp2_with fail
        go_quiet (fail)
        go_wp2_with fail
        try rw [Exit.noGoto_ret]
        go_ret
        exact ⟨rfl, drewN_below (drewN_below (Below.refl _ _) _) _⟩
      · have HY := Lib.hid (HX.out (by omega))
        clear HX HA HS
        go_wp2_with fail
        go_quiet (fail)
        go_wp2_with fail
        go_roundw
        case rel => exact ⟨j + 1, _, by omega, by go_num, rfl, HY.out⟩
        case measure => simp [intOf]; omega
    · exact absurd (fun i h => HA.out i h (by omega)) HS.out
theorem rising_any (K : List Int) (a : Option Addr) (c : Nat) (w : World) (h : Rd w a (K.map ukey)) (h1 : K.length ≤ 1000) (v : Bool) (hv : riseB K = v) :
    Calls Try.prog 66 #[.slice a K.length c] w fun e w' => e = .returned (.bool v) ∧ Below w.heap.size w w' := by
  cases v with
  | true => exact rising_yes K a c w h h1 ((riseB_iff K).1 hv)
  | false => exact rising_no K a c w h h1 (fun hx => by rw [(riseB_iff K).2 hx] at hv; cases hv)
set_option maxHeartbeats 3200000 in
set_option maxRecDepth 20000 in
theorem plain_any (n : Nod) (ak av ac : Option Addr) (ck cv cc : Nat) (w : World) (h : NodR w n ak av ac ck cv cc) (v : Bool) (hpv : Hid ((plainB n && wholeB n) = v)) :
    Calls Try.prog 58 #[nodV n ak av ac ck cv cc] w fun e w' => e = .returned (.bool v) ∧ Below w.heap.size w w' := by
  obtain ⟨u, hu⟩ : ∃ u, wholeB n = u := ⟨_, rfl⟩
  obtain ⟨ri, hri⟩ : ∃ ri, riseB n.K = ri := ⟨_, rfl⟩
  have WH := Lib.hid (fun w => whole_any n ak av ac ck cv cc w h.ok u hu)
  have RI := Lib.hid (fun w' (hb : Below w.heap.size w w') => rising_any n.K ak ck w' (h.k.below hb) h.ok.k1 ri hri)
  have FV : Hid (∀ i (h : i < n.V.length), ¬ n.V[i].size ≤ 40 → v = false) := Lib.hid (fun i h hx => by
    rw [← hpv.out, Bool.and_eq_false_iff]; left
    cases hp : plainB n with
    | false => rfl
    | true => exact absurd ((plainB_iff n).1 hp).2.1 (fun h2 => hx (h2 _ (List.getElem_mem h))))
  have FC : Hid (∀ i (h : i < n.C.length), ¬ (2 ≤ n.C[i] ∧ n.C[i] < 640) → v = false) := Lib.hid (fun i h hx => by
    rw [← hpv.out, Bool.and_eq_false_iff]; left
    cases hp : plainB n with
    | false => rfl
    | true => exact absurd ((plainB_iff n).1 hp).2.2 (fun h2 => hx (h2 _ (List.getElem_mem h))))
  have FE : Hid ((∀ i (h : i < n.V.length), n.V[i].size ≤ 40) → (∀ i (h : i < n.C.length), 2 ≤ n.C[i] ∧ n.C[i] < 640) → v = (u && ri)) := Lib.hid (fun h1 h2 => by
    have a1 : n.V.all (fun v => decide (v.size ≤ 40)) = true := by
      rw [List.all_eq_true]; intro x hx
      obtain ⟨i, hi, rfl⟩ := List.getElem_of_mem hx
      exact decide_eq_true (h1 i hi)
    have a2 : n.C.all (fun c => decide (2 ≤ c ∧ c < 640)) = true := by
      rw [List.all_eq_true]; intro x hx
      obtain ⟨i, hi, rfl⟩ := List.getElem_of_mem hx
      exact decide_eq_true (h2 i hi)
    rw [← hpv.out, hu]
    unfold plainB
    rw [a1, a2, hri]
    cases u <;> cases ri <;> rfl)
  have hv1 := h.ok.v1
  have hc1 := h.ok.c1
  have HV0 := h.v
  have HC0 := h.c
  clear h hpv hu hri
  obtain ⟨lf, K, V, C⟩ := n
  unfold nodV at *
  dsimp only at WH RI hv1 hc1 HV0 HC0 FV FC FE ⊢
  obtain ⟨lk, hlk⟩ : ∃ lk, K.length = lk := ⟨_, rfl⟩
  obtain ⟨lv, hlv⟩ : ∃ lv, V.length = lv := ⟨_, rfl⟩
  obtain ⟨lc, hlc⟩ : ∃ lc, C.length = lc := ⟨_, rfl⟩
  rw [hlk, hlv, hlc] at WH ⊢
  rw [hlk] at RI
  rw [hlv] at hv1
  rw [hlc] at hc1
  obtain ⟨W, hW⟩ : ∃ W, w.alloc (.cells #[.bool lf, .slice ak lk ck, .slice av lv cv, .slice ac lc cc] 26) = W := ⟨_, rfl⟩
  have bel : Below w.heap.size w W := by rw [← hW]; exact below_made _ _
  have XA : W.heap[w.heap.size]? = some (.cells #[.bool lf, .slice ak lk ck, .slice av lv cv, .slice ac lc cc] 26) := by rw [← hW]; exact heap_alloc_new w _
  have x0 : W.cell? ⟨w.heap.size, 0, none⟩ = some (.bool lf) := by rw [Go.Joins.cell_of_block XA]; rfl
  have x1 : W.cell? ⟨w.heap.size, 1, none⟩ = some (.slice ak lk ck) := by rw [Go.Joins.cell_of_block XA]; rfl
  have x2 : W.cell? ⟨w.heap.size, 2, none⟩ = some (.slice av lv cv) := by rw [Go.Joins.cell_of_block XA]; rfl
  have x3 : W.cell? ⟨w.heap.size, 3, none⟩ = some (.slice ac lc cc) := by rw [Go.Joins.cell_of_block XA]; rfl
  have HV := Lib.hid (HV0.below bel)
  have HC := Lib.hid (HC0.below bel)
  have BEL := Lib.hid bel
  have XH := Lib.hid XA
  have HW := Lib.hid hW
  clear bel XA hW HV0 HC0
  go_enter Try.func58, Try.ntmps58
  go_upto_region 1 with fail
  rw [HW.out]
  go_wp2_with fail
  go_loop [10] (fun i => ∃ j : Nat, j ≤ lv ∧ i = .int .i64 (j : Int) ∧ ∀ i (h : i < V.length), i < j → V[i].size ≤ 40) (fun i => lv + 1 - (intOf i).toNat)
  case atStart => exact ⟨0, Nat.zero_le _, rfl, fun i h hi => absurd hi (Nat.not_lt_zero _)⟩
  case round =>
    obtain ⟨j, hj, rfl, hall⟩ := hrel
    have HA := Lib.hid hall
    clear hall
    by_cases hlt : j < lv
    · have hji : (j : Int) < (lv : Int) := by omega
      have hjl : j < (V.map Value.string).length := by rw [List.length_map]; omega
      obtain ⟨b, off, rfl, hb, z⟩ := HV.out.at j hjl
      have e1 : (V.map Value.string)[j] = .string (V[j]'(by omega)) := by rw [List.getElem_map]
      rw [e1] at z
      have HX : Hid ((V[j]'(by omega)).size ≤ 40 → ∀ i (h : i < V.length), i < j + 1 → V[i].size ≤ 40) := Lib.hid (fun hx i h hi => by
        by_cases he : i = j
        · subst he; exact hx
        · exact HA.out i h (by omega))
      have FVJ := Lib.hid (FV.out j (by omega))
      clear e1 hb
      generalize V[j]'(by omega) = x at *
      by_cases hz2 : (40 : Int) < (x.size : Int)
      · have hvf : v = false := FVJ.out (by omega)
        subst hvf
        clear HX HA FV FC FE FVJ
        go_wp2_with fail
        try rw [Exit.noGoto_ret]
        go_ret
        exact ⟨rfl, BEL.out⟩
      · have HY := Lib.hid (HX.out (by omega))
        clear HX FVJ
        go_wp2_with fail
        go_round
        case rel => exact ⟨j + 1, by omega, by go_num, HY.out⟩
        case measure => simp [intOf]; omega
    · obtain rfl : j = lv := by omega
      have hji : ¬ (j : Int) < (j : Int) := by omega
      go_wp2_with fail
      go_loop [21] (fun i => ∃ k : Nat, k ≤ lc ∧ i = .int .i64 (k : Int) ∧ ∀ i (h : i < C.length), i < k → 2 ≤ C[i] ∧ C[i] < 640) (fun i => lc + 1 - (intOf i).toNat)
      case atStart => exact ⟨0, Nat.zero_le _, rfl, fun i h hi => absurd hi (Nat.not_lt_zero _)⟩
      case round =>
        obtain ⟨k, hk, rfl, hall⟩ := hrel
        have HAC := Lib.hid hall
        clear hall
        by_cases hlt2 : k < lc
        · have hki : (k : Int) < (lc : Int) := by omega
          have hkl : k < (C.map ikid).length := by rw [List.length_map]; omega
          obtain ⟨b, off, rfl, hb, z⟩ := HC.out.at k hkl
          have e1 : (C.map ikid)[k] = .int .i64 (C[k]'(by omega)) := by rw [List.getElem_map]; rfl
          rw [e1] at z
          have HX : Hid ((2 ≤ C[k]'(by omega) ∧ C[k]'(by omega) < 640) → ∀ i (h : i < C.length), i < k + 1 → 2 ≤ C[i] ∧ C[i] < 640) := Lib.hid (fun hx i h hi => by
            by_cases he : i = k
            · subst he; exact hx
            · exact HAC.out i h (by omega))
          have FCJ := Lib.hid (FC.out k (by omega))
          clear e1 hb
          generalize C[k]'(by omega) = x at *
          by_cases hz1 : x < 2
          · have hvf : v = false := FCJ.out (by omega)
            subst hvf
            clear HX HA HAC FV FC FE FCJ
            go_wp2_with fail
            try rw [Exit.noGoto_ret]
            go_ret
            exact ⟨rfl, BEL.out⟩
          · by_cases hz2 : 640 ≤ x
            · have hvf : v = false := FCJ.out (by omega)
              subst hvf
              clear HX HA HAC FV FC FE FCJ
              go_wp2_with fail
              try rw [Exit.noGoto_ret]
              go_ret
              exact ⟨rfl, BEL.out⟩
            · have HY := Lib.hid (HX.out (by omega))
              clear HX FCJ
              go_wp2_with fail
              go_round
              case rel => exact ⟨k + 1, by omega, by go_num, HY.out⟩
              case measure => simp [intOf]; omega
        · obtain rfl : k = lc := by omega
          have hki : ¬ (k : Int) < (k : Int) := by omega
          have hvE := FE.out (fun i h => HA.out i h (by omega)) (fun i h => HAC.out i h (by omega))
          subst hvE
          clear FE FV FC HA HAC
          cases u
          · go_wp2_with fail
            refine (WH.out _).mono ?_
            rintro e w1 ⟨rfl, b1⟩
            go_wp2_with fail
            go_ret
            exact ⟨rfl, chain BEL.out b1⟩
          · go_wp2_with fail
            refine (WH.out _).mono ?_
            rintro e w1 ⟨rfl, b1⟩
            have B1 := Lib.hid (chain BEL.out b1)
            have y1 : w1.cell? ⟨w.heap.size, 1, none⟩ = some (.slice ak lk ck) := by
              have X1 : w1.heap[w.heap.size]? = _ := (b1.block _ (Array.getElem?_eq_some_iff.1 XH.out).1).trans XH.out
              rw [Go.Joins.cell_of_block X1]; rfl
            clear b1
            go_wp2_with fail
            refine (RI.out _ B1.out).mono ?_
            rintro e w2 ⟨rfl, b2⟩
            go_wp2_with fail
            go_ret
            exact ⟨ret_bool (by simp), chain B1.out b2⟩
set_option maxHeartbeats 1600000 in
set_option maxRecDepth 20000 in
theorem right_any (n : Nod) (ak av ac : Option Addr) (ck cv cc : Nat) (w : World) (h : NodR w n ak av ac ck cv cc) (v : Bool) (hv : Hid (rightN n = v)) :
    Calls Try.prog 47 #[nodV n ak av ac ck cv cc] w fun e w' => e = .returned (.bool v) ∧ Below w.heap.size w w' := by
  obtain ⟨z, hzz⟩ : ∃ z, sizeN n = z := ⟨_, rfl⟩
  obtain ⟨pw, hpw⟩ : ∃ pw, (plainB n && wholeB n) = pw := ⟨_, rfl⟩
  have PL := Lib.hid (fun w' (hb : Below w.heap.size w w') => plain_any n ak av ac ck cv cc w' (h.below hb) pw (Lib.hid hpw))
  have SZ := Lib.hid (fun (hp : pw = true) w' (hb : Below w.heap.size w w') => size_is n ak av ac ck cv cc w' (h.below hb) z (Lib.hid hzz) (by rw [hp, Bool.and_eq_true] at hpw; exact hpw.2))
  have hv' : (pw && (!n.leaf || decide (0 < n.K.length)) && decide (z ≤ 240)) = v := by rw [← hv.out, ← hpw, ← hzz]; rfl
  clear h hzz hpw hv
  obtain ⟨lf, K, V, C⟩ := n
  unfold nodV at *
  dsimp only at PL SZ hv' ⊢
  generalize K.length = lk at *
  generalize V.length = lv at *
  generalize C.length = lc at *
  have b0 : Below w.heap.size w (w.alloc (.cells #[.bool lf, .slice ak lk ck, .slice av lv cv, .slice ac lc cc] 26)) := below_made _ _
  have B0 := Lib.hid b0
  subst hv'
  clear b0
  cases pw
  · go_enter Try.func47, Try.ntmps47
    go_wp2_with fail
    refine (PL.out _ B0.out).mono ?_
    rintro e w1 ⟨rfl, b1⟩
    have B1 := Lib.hid (box_below b1)
    clear b1
    go_wp2_with fail
    go_ret
    exact ⟨rfl, B1.out⟩
  · by_cases h0 : lf = true ∧ ¬ 0 < lk
    · obtain ⟨rfl, h0⟩ := h0
      have h0i : ¬ (0 : Int) < (lk : Int) := by omega
      have h0d : decide (0 < lk) = false := by simpa using h0
      go_enter Try.func47, Try.ntmps47
      go_wp2_with fail
      refine (PL.out _ B0.out).mono ?_
      rintro e w1 ⟨rfl, b1⟩
      have X1 := box_kept b1
      have B1 := Lib.hid (box_below b1)
      have y0 : w1.cell? ⟨w.heap.size, 0, none⟩ = some (.bool true) := by rw [Go.Joins.cell_of_block X1]; rfl
      have y1 : w1.cell? ⟨w.heap.size, 1, none⟩ = some (.slice ak lk ck) := by rw [Go.Joins.cell_of_block X1]; rfl
      clear X1 b1
      go_wp2_with fail
      go_ret
      exact ⟨ret_bool (by simp [h0d]), B1.out⟩
    · have hmid : (!lf || decide (0 < lk)) = true := by cases lf <;> simp at h0 ⊢ <;> omega
      have hend : (true && (!lf || decide (0 < lk)) && decide (z ≤ 240)) = decide ((z : Int) ≤ 240) := by rw [hmid]; simp; omega
      rw [hend]
      have hleaf : lf = true → (0 : Int) < (lk : Int) := by intro h; subst h; simp at h0; omega
      clear hmid hend h0
      obtain ⟨hl0, hl1⟩ : True ∧ True := ⟨trivial, trivial⟩
      cases lf
      · clear hleaf hl0 hl1
        go_enter Try.func47, Try.ntmps47
        go_wp2_with fail
        refine (PL.out _ B0.out).mono ?_
        rintro e w1 ⟨rfl, b1⟩
        have X1 := box_kept b1
        have B1 := Lib.hid (box_below b1)
        have y0 : w1.cell? ⟨w.heap.size, 0, none⟩ = some (.bool false) := by rw [Go.Joins.cell_of_block X1]; rfl
        have y1 : w1.cell? ⟨w.heap.size, 1, none⟩ = some (.slice ak lk ck) := by rw [Go.Joins.cell_of_block X1]; rfl
        have y2 : w1.cell? ⟨w.heap.size, 2, none⟩ = some (.slice av lv cv) := by rw [Go.Joins.cell_of_block X1]; rfl
        have y3 : w1.cell? ⟨w.heap.size, 3, none⟩ = some (.slice ac lc cc) := by rw [Go.Joins.cell_of_block X1]; rfl
        clear X1 b1
        go_wp2_with fail
        refine (SZ.out trivial _ B1.out).mono ?_
        rintro e w2 ⟨rfl, b2⟩
        go_wp2_with fail
        go_ret
        exact ⟨rfl, chain B1.out b2⟩
      · have hli := hleaf rfl
        clear hleaf hl0 hl1
        go_enter Try.func47, Try.ntmps47
        go_wp2_with fail
        refine (PL.out _ B0.out).mono ?_
        rintro e w1 ⟨rfl, b1⟩
        have X1 := box_kept b1
        have B1 := Lib.hid (box_below b1)
        have y0 : w1.cell? ⟨w.heap.size, 0, none⟩ = some (.bool true) := by rw [Go.Joins.cell_of_block X1]; rfl
        have y1 : w1.cell? ⟨w.heap.size, 1, none⟩ = some (.slice ak lk ck) := by rw [Go.Joins.cell_of_block X1]; rfl
        have y2 : w1.cell? ⟨w.heap.size, 2, none⟩ = some (.slice av lv cv) := by rw [Go.Joins.cell_of_block X1]; rfl
        have y3 : w1.cell? ⟨w.heap.size, 3, none⟩ = some (.slice ac lc cc) := by rw [Go.Joins.cell_of_block X1]; rfl
        clear X1 b1
        go_wp2_with fail
        refine (SZ.out trivial _ B1.out).mono ?_
        rintro e w2 ⟨rfl, b2⟩
        go_wp2_with fail
        go_ret
        exact ⟨rfl, chain B1.out b2⟩
end Go.Proofs.Ytkdcoipbdkmieaa
