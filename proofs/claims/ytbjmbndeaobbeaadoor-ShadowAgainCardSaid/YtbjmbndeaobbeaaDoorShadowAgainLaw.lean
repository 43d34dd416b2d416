/-
  The law ShadowAgain.
-/
import Derived.Test.YtbjmbndeaobbeaaDoorShAg
import Derived.Test.YtbjmbndeaobbeaaDoorHeld
import Derived.Deep.DeepCutAuto
namespace Go.Proofs.YtbjmbndeaobbeaaDoor
open Go.RowKit
set_option linter.unusedVariables false
set_option linter.unusedSimpArgs false
theorem text_cellA {w : World} {a : Option Addr} {len cap : Nat} {ss : List ByteArray} (hk : IsStrs w a len cap ss) (j : Nat) (hj : j < len) : ∃ x s, a = some x ∧ Hid ((∀ wr, Below w.heap.size w wr → wr.cell? (x.add j) = some (.string s)) ∧ ss.getD j ByteArray.empty = s) := by
  rcases hk with ⟨rfl, rfl, rfl, rfl⟩ | ⟨x, rfl, h1, h2, h3, h4, h5⟩
  · omega
  · have hjl : j < ss.length := by omega
    refine ⟨x, _, rfl, Lib.hid ⟨fun wr hb => ?_, rfl⟩⟩
    have hc := h4 j hjl
    have hlt : (x.add j).block < w.heap.size := by
      unfold World.cell? at hc
      cases hq : w.heap[(x.add j).block]? with
      | none => rw [hq] at hc; simp at hc
      | some b => exact (Array.getElem?_eq_some_iff.1 hq).1
    exact (hb.cell hlt).trans hc
def cut240 (s : ByteArray) : ByteArray := s.extract 0 (if (240 : Int) < (s.size : Int) then (240 : Int) else (s.size : Int)).toNat
theorem cut240_le (s : ByteArray) : (cut240 s).size ≤ 240 := by
  unfold cut240; rw [ByteArray.size_extract]; split <;> omega
set_option maxHeartbeats 12800000 in
set_option maxRecDepth 20000 in
theorem shadowAgain_law (a : Option Addr) (len cap : Nat) (ss : List ByteArray) (a1 : Int) (a2 : ByteArray) (w : World) (hk : IsStrs w a len cap ss) (v1 : (Lit.int .i64 a1).wf = true) (z2 : a2.size ≤ 140737488351232) :
    Calls Tryd.prog 6 #[.slice a len cap, .int .i64 a1, .string a2] w fun e w' => e = .returned (.bool true) ∧ Below w.heap.size w w' := by
  have MD := Lib.hid (fun w => made_is w 20 (by decide) (by decide))
  have K1 := Lib.hid (bounds_i64 v1)
  have CELLS := Lib.hid (text_cellA hk)
  have hlenL : (len : Int) ≤ 9223372036854775807 := by
    rcases hk with ⟨_, rfl, _, _⟩ | ⟨_, _, h1, h2, _⟩
    · decide
    · unfold maxLen at h2; omega
  obtain ⟨T, hT⟩ : ∃ T : Nat → ByteArray, T = fun j => cut240 (ss.getD j ByteArray.empty) := ⟨_, rfl⟩
  have CUT : Hid (∀ j, (T j).size ≤ 240 ∧ ∀ s, ss.getD j ByteArray.empty = s → ∀ mn : Int, (if (240 : Int) < (s.size : Int) then (240 : Int) else (s.size : Int)) = mn → s.extract 0 mn.toNat = T j) := Lib.hid (fun j => by
    subst hT
    exact ⟨cut240_le _, fun s hs mn hm => by subst hs; subst hm; rfl⟩)
  obtain ⟨t, ht⟩ : ∃ t, cut240 a2 = t := ⟨_, rfl⟩
  have HT2 : Hid (t.size ≤ 240) := Lib.hid (by rw [← ht]; exact cut240_le _)
  obtain ⟨mt, hmt⟩ : ∃ mt : Int, (if (240 : Int) < (a2.size : Int) then (240 : Int) else (a2.size : Int)) = mt := ⟨_, rfl⟩
  have hta : a2.extract 0 mt.toNat = t := by rw [← hmt]; exact ht
  have ha0 : (0 : Int) ≤ mt := by rw [← hmt]; split <;> omega
  have ha1 : mt ≤ (a2.size : Int) := by rw [← hmt]; split <;> omega
  clear z2 v1 hk hT ht
  go_enter Tryd.func6, Tryd.ntmps6
  try simp only [List.append_eq, List.cons_append, List.nil_append]
  go_wp2_with fail
  refine (examples_yes _).mono ?_
  rintro e w1 ⟨rfl, b1⟩
  have B1 := Lib.hid b1
  clear b1
  go_wp2_with fail
  refine (MD.out _).mono ?_
  rintro e w2 ⟨d, s, rfl, hs⟩
  have HS2 : Hid (DSL w1 w2 d s (ag T 0) (hS (tk 0))) := Lib.hid hs
  clear hs MD
  have sn := ptr_nilS ⟨s, 0, none⟩
  go_wp2_with fail
  go_loopw [10, 11, 12, 13] (fun c i _ _ wr => ∃ j : Nat, j ≤ 8 ∧ j ≤ len ∧ i = .int .i64 (j : Int) ∧ c = .int .i64 (j : Int) ∧ Hid (DSL w1 wr d s (ag T j) (hS (tk j)))) (fun _ i _ _ _ => 9 - (intOf i).toNat)
  case atStart => exact ⟨0, by omega, by omega, rfl, rfl, HS2⟩
  case round =>
    obtain ⟨j, hj8, hjlen, rfl, rfl, HS⟩ := hrel
    by_cases hjl : j < len
    · have hjli : (j : Int) < (len : Int) := by omega
      by_cases hlt : j < 8
      · have hli : (j : Int) < 8 := by omega
        obtain ⟨x, sj, hax, CELL⟩ := CELLS.out j hjl
        have hle := (CUT.out j).1
        obtain ⟨mn, hmn⟩ : ∃ mn : Int, (if (240 : Int) < (sj.size : Int) then (240 : Int) else (sj.size : Int)) = mn := ⟨_, rfl⟩
        have hcut := (CUT.out j).2 sj (CELL.out.2) mn hmn
        replace CELL := Lib.hid CELL.out.1
        have TK : Hid (∀ wr, DSL w1 wr d s (ag T j) (hS (tk j)) → Calls Tryd.prog 12 #[.pointer (some ⟨s, 0, none⟩)] wr fun e w' => e = .returned (.tuple #[.int .i64 ((j + 2 : Nat) : Int), .int .i64 0]) ∧ DSL w1 w' d s (ag T j) (hS (tk (j + 1)))) := Lib.hid (fun wr h => take_L h rfl (j + 2) (by omega) (by rw [(ag_ok T j hj8).len]; omega) (fun k h1 h2 => by rw [hS_free]; simp only [decide_eq_true ((tk_mem j k).2 ⟨h1, h2⟩)]; rfl) (by rw [hS_free]; rw [decide_eq_false (fun h => by have := (tk_mem j (j + 2)).1 h; omega)]; rfl))
        have WR : Hid (∀ wr, DSL w1 wr d s (ag T j) (hS (tk (j + 1))) → Calls Tryd.prog 13 #[.pointer (some ⟨s, 0, none⟩), .int .i64 ((j + 2 : Nat) : Int), .int .i64 4, .string (T j)] wr fun e w' => e = .returned (.int .i64 0) ∧ DSL w1 w' d s (ag T (j + 1)) (hS (tk (j + 1)))) := Lib.hid (fun wr h => by
          have hw := writeS_L h ((j + 2 : Nat) : Int) 4 (T j)
          rw [ag_write T j hlt hle] at hw
          exact hw)
        have e4 : IntKind.i64.wrap ((j : Int) + 1) = ((j + 1 : Nat) : Int) := by rw [show (j : Int) + 1 = ((j + 1 : Nat) : Int) by omega]; exact IntWalk.i64_in _ (by omega)
        have hmin0 : (0 : Int) ≤ mn := by rw [← hmn]; split <;> omega
        have hmin1 : mn ≤ (sj.size : Int) := by rw [← hmn]; split <;> omega
        generalize T j = X at WR hcut
        obtain ⟨p, hp⟩ : ∃ p : Nat, j + 2 = p := ⟨_, rfl⟩
        rw [hp] at TK WR
        have HLT := Lib.hid (show j < 8 ∧ j < len by omega)
        subst hax
        clear hp hle hlt hjl hj8 hjlen
        go_wp2_with fail
        refine (TK.out _ HS.out).mono ?_
        rintro e w3 ⟨rfl, hs⟩
        have HS3 := Lib.hid hs
        clear hs HS
        go_upto_region 12 with fail
        refine wp_region_held_drew (S := fun w' => Below w.heap.size w w') (by kernel_rfl) (chain B1.out HS3.out.below).drew (fun hS => ?_)
        refine held_take (i := 0) 48 (v := ?va0x1) rfl rfl (by kernel_rfl) (by kernel_rfl) (by kernel_rfl) (fun _ _ _ h => h) hS (by rfl) ?ha0x1 ?ra0x1
        case ha0x1 =>
          intro w9 s9
          clear s9
          go_simp
          try (with_reducible rfl)
        simp only [List.setIfInBounds_toArray, List.set_cons_zero, List.set_cons_succ]
        refine held_take (i := 1) 49 (v := ?va1x2) rfl rfl (by kernel_rfl) (by kernel_rfl) (by kernel_rfl) (fun _ _ _ h => h) hS (by rfl) ?ha1x2 ?ra1x2
        case ha1x2 =>
          intro w9 s9
          clear s9
          go_simp
          try (with_reducible rfl)
        simp only [List.setIfInBounds_toArray, List.set_cons_zero, List.set_cons_succ]
        refine held_take (i := 2) 50 (v := ?va2x3) rfl rfl (by kernel_rfl) (by kernel_rfl) (by kernel_rfl) (fun _ _ _ h => h) hS (by rfl) ?ha2x3 ?ra2x3
        case ha2x3 =>
          intro w9 s9
          clear s9
          go_simp
          try (with_reducible rfl)
        simp only [List.setIfInBounds_toArray, List.set_cons_zero, List.set_cons_succ]
        refine held_take (i := 3) 51 (v := ?va3x4) rfl rfl (by kernel_rfl) (by kernel_rfl) (by kernel_rfl) (fun _ _ _ h => h) hS (by rfl) ?ha3x4 ?ra3x4
        case ha3x4 =>
          intro w9 s9
          clear s9
          go_simp
          try (with_reducible rfl)
        simp only [List.setIfInBounds_toArray, List.set_cons_zero, List.set_cons_succ]
        refine held_take (i := 4) 52 (v := ?va4x5) rfl rfl (by kernel_rfl) (by kernel_rfl) (by kernel_rfl) (fun _ _ _ h => h) hS (by rfl) ?ha4x5 ?ra4x5
        case ha4x5 =>
          intro w9 s9
          clear s9
          go_simp
          try (with_reducible rfl)
        simp only [List.setIfInBounds_toArray, List.set_cons_zero, List.set_cons_succ]
        refine held_take (i := 5) 53 (v := ?va5x6) rfl rfl (by kernel_rfl) (by kernel_rfl) (by kernel_rfl) (fun _ _ _ h => h) hS (by rfl) ?ha5x6 ?ra5x6
        case ha5x6 =>
          intro w9 s9
          clear s9
          go_simp
          try (with_reducible rfl)
        simp only [List.setIfInBounds_toArray, List.set_cons_zero, List.set_cons_succ]
        refine held_take (i := 6) 54 (v := ?va6x7) rfl rfl (by kernel_rfl) (by kernel_rfl) (by kernel_rfl) (fun _ _ _ h => h) hS (by rfl) ?ha6x7 ?ra6x7
        case ha6x7 =>
          intro w9 s9
          clear s9
          go_simp
          try (with_reducible rfl)
        simp only [List.setIfInBounds_toArray, List.set_cons_zero, List.set_cons_succ]
        refine held_take (i := 7) 55 (v := ?va7x8) rfl rfl (by kernel_rfl) (by kernel_rfl) (by kernel_rfl) (fun _ _ _ h => h) hS (by rfl) ?ha7x8 ?ra7x8
        case ha7x8 =>
          intro w9 s9
          clear s9
          go_simp
          try (with_reducible rfl)
        simp only [List.setIfInBounds_toArray, List.set_cons_zero, List.set_cons_succ]
        refine held_take (i := 8) 56 (v := ?va8x9) rfl rfl (by kernel_rfl) (by kernel_rfl) (by kernel_rfl) (fun _ _ _ h => h) hS (by rfl) ?ha8x9 ?ra8x9
        case ha8x9 =>
          intro w9 s9
          have cX : w9.cell? (x.add j) = some (.string sj) := CELL.out w9 s9
          clear s9
          go_simp
          try (with_reducible rfl)
        simp only [List.setIfInBounds_toArray, List.set_cons_zero, List.set_cons_succ]
        refine held_take (i := 9) 57 (v := ?va9x10) rfl rfl (by kernel_rfl) (by kernel_rfl) (by kernel_rfl) (fun _ _ _ h => h) hS (by rfl) ?ha9x10 ?ra9x10
        case ha9x10 =>
          intro w9 s9
          clear s9
          go_simp
          try (with_reducible rfl)
        simp only [List.setIfInBounds_toArray, List.set_cons_zero, List.set_cons_succ]
        refine held_take (i := 10) 58 (v := ?va10x11) rfl rfl (by kernel_rfl) (by kernel_rfl) (by kernel_rfl) (fun _ _ _ h => h) hS (by rfl) ?ha10x11 ?ra10x11
        case ha10x11 =>
          intro w9 s9
          clear s9
          go_simp
          try (with_reducible rfl)
        simp only [List.setIfInBounds_toArray, List.set_cons_zero, List.set_cons_succ]
        refine held_take (i := 11) 59 (v := ?va11x12) rfl rfl (by kernel_rfl) (by kernel_rfl) (by kernel_rfl) (fun _ _ _ h => h) hS (by rfl) ?ha11x12 ?ra11x12
        case ha11x12 =>
          intro w9 s9
          clear s9
          go_simp
          try (with_reducible rfl)
        simp only [List.setIfInBounds_toArray, List.set_cons_zero, List.set_cons_succ]
        refine held_take (i := 12) 60 (v := ?va12x13) rfl rfl (by kernel_rfl) (by kernel_rfl) (by kernel_rfl) (fun _ _ _ h => h) hS (by rfl) ?ha12x13 ?ra12x13
        case ha12x13 =>
          intro w9 s9
          have cX : w9.cell? (x.add j) = some (.string sj) := CELL.out w9 s9
          clear s9
          go_simp
          try (with_reducible rfl)
        simp only [List.setIfInBounds_toArray, List.set_cons_zero, List.set_cons_succ]
        refine held_take (i := 13) 61 (v := ?va13x14) rfl rfl (by kernel_rfl) (by kernel_rfl) (by kernel_rfl) (fun _ _ _ h => h) hS (by rfl) ?ha13x14 ?ra13x14
        case ha13x14 =>
          intro w9 s9
          clear s9
          go_simp
          try (with_reducible rfl)
        simp only [List.setIfInBounds_toArray, List.set_cons_zero, List.set_cons_succ]
        refine held_take (i := 14) 62 (v := ?va14x15) rfl rfl (by kernel_rfl) (by kernel_rfl) (by kernel_rfl) (fun _ _ _ h => h) hS (by rfl) ?ha14x15 ?ra14x15
        case ha14x15 =>
          intro w9 s9
          clear s9
          go_simp
          try (with_reducible rfl)
        simp only [List.setIfInBounds_toArray, List.set_cons_zero, List.set_cons_succ]
        refine held_take (i := 15) 63 (v := ?va15x16) rfl rfl (by kernel_rfl) (by kernel_rfl) (by kernel_rfl) (fun _ _ _ h => h) hS (by rfl) ?ha15x16 ?ra15x16
        case ha15x16 =>
          intro w9 s9
          clear s9
          go_simp
          try (with_reducible rfl)
        simp only [List.setIfInBounds_toArray, List.set_cons_zero, List.set_cons_succ]
        refine held_step (i := 16) rfl (by kernel_rfl) (fun K hK => ?_)
        have HK := Lib.hid hK
        clear hK
        go_simp
        go_wp2_with fail
        refine (WR.out _ (HS3.out.step (Below.refl _ _).drew)).mono ?_
        rintro e v4 ⟨rfl, hs⟩
        refine HK.out _ _ ?_ ?_
        · exact chain B1.out hs.below
        clear HK K
        try simp only [Act.put, List.setIfInBounds_toArray, List.set_cons_zero, List.set_cons_succ]
        have hS9 := chain B1.out hs.below
        clear hS
        have hS := hS9
        clear hS9
        have HS4 := Lib.hid hs
        clear hs
        refine held_take (i := 17) 65 (v := ?va17x17) rfl rfl (by kernel_rfl) (by kernel_rfl) (by kernel_rfl) (fun _ _ _ h => h) hS (by rfl) ?ha17x17 ?ra17x17
        case ha17x17 =>
          intro w9 s9
          clear s9
          go_simp
          try (with_reducible rfl)
        simp only [List.setIfInBounds_toArray, List.set_cons_zero, List.set_cons_succ]
        refine held_take (i := 18) 66 (v := ?va18x18) rfl rfl (by kernel_rfl) (by kernel_rfl) (by kernel_rfl) (fun _ _ _ h => h) hS (by rfl) ?ha18x18 ?ra18x18
        case ha18x18 =>
          intro w9 s9
          clear s9
          go_simp
          try (with_reducible rfl)
        simp only [List.setIfInBounds_toArray, List.set_cons_zero, List.set_cons_succ]
        refine wpAnyH_done (by kernel_rfl) ?_ _
        clear hS

        go_wp2_with fail
        go_roundw
        case rel => exact ⟨j + 1, by have := HLT.out; omega, by have := HLT.out; omega, rfl, rfl, HS4⟩
        case measure => have := HLT.out; simp [intOf]; omega
      · have hli : ¬ (j : Int) < 8 := by omega
        have hm8 : j ≤ 8 ∧ j ≤ len := by omega
        have h8e : 8 ≤ j := by omega
        clear hlt hj8 hjlen
        obtain ⟨m, rfl⟩ : ∃ m, m = j := ⟨_, rfl⟩
        have HM := Lib.hid hm8.1
        have HLM := Lib.hid hm8.2
        have ew : IntKind.i64.wrap (18 - (m : Int)) = 18 - (m : Int) := IntWalk.i64_in _ (by omega)
        have ex1 : ((18 - (m : Int)) != (18 - (m : Int))) = false := by simp
        by_cases hpos : 0 < m
        · have hpi : (m : Int) > 0 := by omega
          have hpi2 : (0 : Int) < (m : Int) := by omega
          have HP := Lib.hid hpos
          clear hm8 hpos
          go_wp2_with fail
          refine ((fun wr (h : DSL w1 wr d s (ag T m) (hS (tk m))) => by have hw := commit_L h 2 (by decide); rw [ag_commit T m HM.out 2 (.inr ⟨rfl, HP.out⟩)] at hw; exact hw : ∀ wr, DSL w1 wr d s (ag T m) (hS (tk m)) → Calls Tryd.prog 15 #[.pointer (some ⟨s, 0, none⟩), .int .i64 2] wr fun e w' => e = .returned (.int .i64 0) ∧ DSL w1 w' d s (agD T m 2) (agS m 2 [] [])) _ HS.out).mono ?_
          rintro e w3 ⟨rfl, hs⟩
          have HS3 := Lib.hid hs
          clear hs HS
          go_wp2_with fail
          refine ((fun wr (h : DSL w1 wr d s (agD T m 2) (agS m 2 [] [])) => by have hw := left_L h; rw [(agD_ok T m HM.out 2).len, agS_left m HM.out 2] at hw; exact hw : ∀ wr, DSL w1 wr d s (agD T m 2) (agS m 2 [] []) → Calls Tryd.prog 21 #[.pointer (some ⟨s, 0, none⟩)] wr fun e w' => e = .returned (.int .i64 (18 - (m : Int))) ∧ Below wr.heap.size wr w') _ HS3.out).mono ?_
          rintro e w4 ⟨rfl, b4⟩
          have HS4 := Lib.hid (HS3.out.step b4)
          clear b4 HS3
          go_wp2_with fail
          refine ((fun wr (h : DSL w1 wr d s (agD T m 2) (agS m 2 [] [])) => take_L h rfl (m + 2) (by omega) (by rw [(agD_ok T m HM.out 2).len]; have := HM.out; omega) (agS_free m HM.out 2).2 (agS_free m HM.out 2).1 : ∀ wr, DSL w1 wr d s (agD T m 2) (agS m 2 [] []) → Calls Tryd.prog 12 #[.pointer (some ⟨s, 0, none⟩)] wr fun e w' => e = .returned (.tuple #[.int .i64 ((m + 2 : Nat) : Int), .int .i64 0]) ∧ DSL w1 w' d s (agD T m 2) (agS m 2 [((m + 2 : Nat) : Int)] [])) _ HS4.out).mono ?_
          rintro e w5 ⟨rfl, hs⟩
          have HS5 := Lib.hid hs
          clear hs HS4
          obtain ⟨p, hp⟩ : ∃ p : Nat, m + 2 = p := ⟨_, rfl⟩
          rw [hp] at HS5 ⊢
          have HPP := Lib.hid hp
          clear hp
          go_wp2_with fail
          refine ((fun wr (h : DSL w1 wr d s (agD T m 2) (agS m 2 [(p : Int)] [])) => by have hw := writeS_L h (p : Int) 5 t; rw [← HPP.out, agS_write T m HM.out 2 t HT2.out, HPP.out] at hw; exact hw : ∀ wr, DSL w1 wr d s (agD T m 2) (agS m 2 [(p : Int)] []) → Calls Tryd.prog 13 #[.pointer (some ⟨s, 0, none⟩), .int .i64 (p : Int), .int .i64 5, .string t] wr fun e w' => e = .returned (.int .i64 0) ∧ DSL w1 w' d s (agE T m 2 t) (agS m 2 [(p : Int)] [])) _ HS5.out).mono ?_
          rintro e w6 ⟨rfl, hs⟩
          have HS6 := Lib.hid hs
          clear hs HS5
          go_upto_if 98 with fail
          go_cut [1] (fun v wx => (∃ q : Nat, v = .int .i64 (q : Int) ∧ (q : Int) ≤ 9223372036854775807) ∧ w6 = wx)
          case first =>
            have hout := K1.out
            by_cases hneg : a1 < 0
            · have e1 : IntKind.i64.wrap (a1 + 1) = a1 + 1 := IntWalk.i64_in _ (by omega)
              obtain ⟨q, hq⟩ : ∃ q : Nat, -(a1 + 1) = (q : Int) := ⟨(-(a1 + 1)).toNat, by omega⟩
              have e2 : IntKind.i64.wrap (-(a1 + 1)) = (q : Int) := by rw [hq]; exact IntWalk.i64_in _ (by omega)
              have hq2 := Lib.hid (show (q : Int) ≤ 9223372036854775807 by omega)
              clear hq
              clear hout
              go_wp2_with fail
              go_meet
              exact ⟨⟨_, rfl, hq2.out⟩, rfl⟩
            · have hoe : a1 = ((a1.toNat : Nat) : Int) := by omega
              have hq2 := Lib.hid (show ((a1.toNat : Nat) : Int) ≤ 9223372036854775807 by omega)
              generalize a1.toNat = q at hoe hq2
              subst hoe
              clear hout
              have hneg' : ¬ (q : Int) < 0 := by omega
              go_wp2_with fail
              go_meet
              exact ⟨⟨_, rfl, hq2.out⟩, rfl⟩
          case rest =>
            obtain ⟨⟨y, rfl, hy⟩, rfl⟩ := hcut
            have hp0 := HP.out
            have hm8 := HM.out
            obtain ⟨q, hq⟩ : ∃ q, y % m = q := ⟨_, rfl⟩
            have hqm : q < m := by rw [← hq]; exact Nat.mod_lt _ (by omega)
            have hmz : ((m : Int) == 0) = false := by simp; omega
            have hmp : (0 : Int) < (m : Int) := by omega
            have hym : (y : Int).tmod (m : Int) = (q : Int) := by rw [Int.tmod_eq_emod_of_nonneg (by omega)]; rw [← hq]; rfl
            have hye : (y : Int) % (m : Int) = (q : Int) := by rw [← hq]; rfl
            have eg : IntKind.i64.wrap (2 + (q : Int)) = ((q + 2 : Nat) : Int) := by rw [show 2 + (q : Int) = ((q + 2 : Nat) : Int) by omega]; exact IntWalk.i64_in _ (by omega)
            have GV : Hid (∀ wr, DSL w1 wr d s (agE T m 2 t) (agS m 2 [(p : Int)] []) → Calls Tryd.prog 14 #[.pointer (some ⟨s, 0, none⟩), .int .i64 ((q + 2 : Nat) : Int)] wr fun e w' => e = .returned (.int .i64 0) ∧ DSL w1 w' d s (agE T m 2 t) (agS m 2 [(p : Int)] [((q + 2 : Nat) : Int)])) := Lib.hid (fun wr h => by
              have hw := give_L h ((q + 2 : Nat) : Int) (by omega) (fun _ => by omega)
              rw [← HPP.out, agS_give m HM.out 2 q hqm, HPP.out] at hw
              exact hw)
            obtain ⟨g, hg⟩ : ∃ g : Nat, q + 2 = g := ⟨_, rfl⟩
            rw [hg] at GV eg
            clear hg hq hqm hy hp0 hm8
            go_wp2_with fail
            refine (GV.out _ HS6.out).mono ?_
            rintro e w7 ⟨rfl, hs⟩
            have HS7 := Lib.hid hs
            clear hs HS6 GV
            go_wp2_with fail
            refine ((fun wr (h : DSL w1 wr d s (agE T m 2 t) (agS m 2 [(p : Int)] [(g : Int)])) => by have hl := ag_last T m HM.out 2 (.inr ⟨rfl, HP.out⟩) t; have hw := mount_L h hl.1; rw [hl.2] at hw; exact hw : ∀ wr, DSL w1 wr d s (agE T m 2 t) (agS m 2 [(p : Int)] [(g : Int)]) → Calls Tryd.prog 17 #[.pointer (some ⟨d, 0, none⟩)] wr fun e w' => ∃ s', e = .returned (.tuple #[.pointer (some ⟨s', 0, none⟩), .int .i64 0]) ∧ DSL w1 w' d s' (agE T m 2 t) (agS m 2 [] [])) _ HS7.out).mono ?_
            rintro e w8 ⟨s', rfl, hs⟩
            have HS8 := Lib.hid hs
            clear hs HS7
            have sn2 := ptr_nilS ⟨s', 0, none⟩
            have RT : Hid (∀ wr, DSL w1 wr d s' (agE T m 2 t) (agS m 2 [] []) → Calls Tryd.prog 11 #[.pointer (some ⟨s', 0, none⟩)] wr fun e w' => e = .returned (.int .i64 2) ∧ wr = w') := Lib.hid (fun wr h => root_L h)
            have GN : Hid (∀ wr, DSL w1 wr d s' (agE T m 2 t) (agS m 2 [] []) → Calls Tryd.prog 18 #[.pointer (some ⟨s', 0, none⟩)] wr fun e w' => e = .returned (.int .i64 2) ∧ wr = w') := Lib.hid (fun wr h => gen_L h)
            have L2 : Hid (∀ wr, DSL w1 wr d s' (agE T m 2 t) (agS m 2 [] []) → Calls Tryd.prog 21 #[.pointer (some ⟨s', 0, none⟩)] wr fun e w' => e = .returned (.int .i64 (18 - (m : Int))) ∧ Below wr.heap.size wr w') := Lib.hid (fun wr h => by have hw := left_L h; rw [(agE_ok T m HM.out 2 t).len, agS_left m HM.out 2] at hw; exact hw)
            have US : Hid (∀ wr, DSL w1 wr d s' (agE T m 2 t) (agS m 2 [] []) → Calls Tryd.prog 19 #[.pointer (some ⟨s', 0, none⟩)] wr fun e w' => (∃ a cap, e = .returned (.slice a m cap)) ∧ Below wr.heap.size wr w') := Lib.hid (fun wr h => by have hw := used_L h; rw [(agE_ok T m HM.out 2 t).len, agS_used m HM.out 2] at hw; exact hw)
            go_wp2_with fail
            refine (RT.out _ HS8.out).mono ?_
            rintro e w9 ⟨rfl, rfl⟩
            go_wp2_with fail
            refine (GN.out _ HS8.out).mono ?_
            rintro e w9 ⟨rfl, rfl⟩
            go_wp2_with fail
            refine (L2.out _ HS8.out).mono ?_
            rintro e w9 ⟨rfl, b9⟩
            have HS9 := Lib.hid (HS8.out.step b9)
            clear b9 HS8
            go_wp2_with fail
            refine (US.out _ HS9.out).mono ?_
            rintro e w10 ⟨⟨ua, ucap, rfl⟩, b10⟩
            have HSA := Lib.hid (HS9.out.step b10)
            clear b10 HS9 RT GN L2 US
            go_wp2_with fail
            go_loopw [20, 21, 22, 23] (fun i _ _ _ wr => ∃ j : Nat, j ≤ m ∧ i = .int .i64 (j : Int) ∧ Hid (DSL w1 wr d s' (agE T m 2 t) (agS m 2 [] []))) (fun i _ _ _ _ => 9 - (intOf i).toNat)
            case atStart => exact ⟨0, Nat.zero_le _, rfl, HSA⟩
            case round =>
              obtain ⟨j, hj, rfl, HS⟩ := hrel
              have hm8 := HM.out
              by_cases hlt : j < m
              · have hli : (j : Int) < (m : Int) := by omega
                have hlm := HLM.out
                obtain ⟨x, sj, hax, CELL⟩ := CELLS.out j (by omega)
                have hle := (CUT.out j).1
                obtain ⟨mn, hmn⟩ : ∃ mn : Int, (if (240 : Int) < (sj.size : Int) then (240 : Int) else (sj.size : Int)) = mn := ⟨_, rfl⟩
                have hcut := (CUT.out j).2 sj (CELL.out.2) mn hmn
                have RD : Hid (∀ wr, DSL w1 wr d s' (agE T m 2 t) (agS m 2 [] []) → Calls Tryd.prog 20 #[.pointer (some ⟨s', 0, none⟩), .int .i64 ((j + 2 : Nat) : Int)] wr fun e w' => e = .returned (.tuple #[.int .i64 4, .string (T j), .int .i64 0]) ∧ DSL w1 w' d s' (agE T m 2 t) (agS m 2 [] [])) := Lib.hid (fun wr h => by
                  have hw := readS_L h ((j + 2 : Nat) : Int)
                  have hr := agS_read T m HM.out 2 t j hlt hle
                  rw [hr.1, hr.2] at hw
                  exact hw)
                replace CELL := Lib.hid CELL.out.1
                have e1 : IntKind.i64.wrap (2 + (j : Int)) = ((j + 2 : Nat) : Int) := by rw [show 2 + (j : Int) = ((j + 2 : Nat) : Int) by omega]; exact IntWalk.i64_in _ (by omega)
                have e4 : IntKind.i64.wrap ((j : Int) + 1) = ((j + 1 : Nat) : Int) := by rw [show (j : Int) + 1 = ((j + 1 : Nat) : Int) by omega]; exact IntWalk.i64_in _ (by omega)
                have hjl : (j : Int) < (len : Int) := by omega
                have HLT := Lib.hid (show j < m ∧ m ≤ 8 by omega)
                have hmin0 : (0 : Int) ≤ mn := by rw [← hmn]; split <;> omega
                have hmin1 : mn ≤ (sj.size : Int) := by rw [← hmn]; split <;> omega
                generalize T j = X at *
                obtain ⟨p2, hp2⟩ : ∃ p2 : Nat, j + 2 = p2 := ⟨_, rfl⟩
                rw [hp2] at RD e1
                subst hax
                clear hp2 hle hj hlt hm8 hlm
                go_wp2_with fail
                refine (RD.out _ HS.out).mono ?_
                rintro e w11 ⟨rfl, hs⟩
                have HS9 := Lib.hid hs
                clear hs HS RD
                go_upto_region 34 with fail
                refine wp_region_held_drew (S := fun w' => Below w.heap.size w w') (by kernel_rfl) (chain B1.out HS9.out.below).drew (fun hS => ?_)
                refine held_take (i := 0) 166 (v := ?vb2q0x1) rfl rfl (by kernel_rfl) (by kernel_rfl) (by kernel_rfl) (fun _ _ _ h => h) hS (by rfl) ?hb2q0x1 ?rb2q0x1
                case hb2q0x1 =>
                  intro w9 s9
                  clear s9
                  go_simp
                  try (with_reducible rfl)
                simp only [List.setIfInBounds_toArray, List.set_cons_zero, List.set_cons_succ]
                refine held_take (i := 1) 167 (v := ?vb2q1x2) rfl rfl (by kernel_rfl) (by kernel_rfl) (by kernel_rfl) (fun _ _ _ h => h) hS (by rfl) ?hb2q1x2 ?rb2q1x2
                case hb2q1x2 =>
                  intro w9 s9
                  clear s9
                  go_simp
                  try (with_reducible rfl)
                simp only [List.setIfInBounds_toArray, List.set_cons_zero, List.set_cons_succ]
                refine held_take (i := 2) 168 (v := ?vb2q2x3) rfl rfl (by kernel_rfl) (by kernel_rfl) (by kernel_rfl) (fun _ _ _ h => h) hS (by rfl) ?hb2q2x3 ?rb2q2x3
                case hb2q2x3 =>
                  intro w9 s9
                  clear s9
                  go_simp
                  try (with_reducible rfl)
                simp only [List.setIfInBounds_toArray, List.set_cons_zero, List.set_cons_succ]
                refine held_take (i := 3) 169 (v := ?vb2q3x4) rfl rfl (by kernel_rfl) (by kernel_rfl) (by kernel_rfl) (fun _ _ _ h => h) hS (by rfl) ?hb2q3x4 ?rb2q3x4
                case hb2q3x4 =>
                  intro w9 s9
                  clear s9
                  go_simp
                  try (with_reducible rfl)
                simp only [List.setIfInBounds_toArray, List.set_cons_zero, List.set_cons_succ]
                refine held_take (i := 4) 170 (v := ?vb2q4x5) rfl rfl (by kernel_rfl) (by kernel_rfl) (by kernel_rfl) (fun _ _ _ h => h) hS (by rfl) ?hb2q4x5 ?rb2q4x5
                case hb2q4x5 =>
                  intro w9 s9
                  clear s9
                  go_simp
                  try (with_reducible rfl)
                simp only [List.setIfInBounds_toArray, List.set_cons_zero, List.set_cons_succ]
                refine held_take (i := 5) 171 (v := ?vb2q5x6) rfl rfl (by kernel_rfl) (by kernel_rfl) (by kernel_rfl) (fun _ _ _ h => h) hS (by rfl) ?hb2q5x6 ?rb2q5x6
                case hb2q5x6 =>
                  intro w9 s9
                  clear s9
                  go_simp
                  try (with_reducible rfl)
                simp only [List.setIfInBounds_toArray, List.set_cons_zero, List.set_cons_succ]
                refine held_take (i := 6) 172 (v := ?vb2q6x7) rfl rfl (by kernel_rfl) (by kernel_rfl) (by kernel_rfl) (fun _ _ _ h => h) hS (by rfl) ?hb2q6x7 ?rb2q6x7
                case hb2q6x7 =>
                  intro w9 s9
                  clear s9
                  go_simp
                  try (with_reducible rfl)
                simp only [List.setIfInBounds_toArray, List.set_cons_zero, List.set_cons_succ]
                refine held_take (i := 7) 173 (v := ?vb2q7x8) rfl rfl (by kernel_rfl) (by kernel_rfl) (by kernel_rfl) (fun _ _ _ h => h) hS (by rfl) ?hb2q7x8 ?rb2q7x8
                case hb2q7x8 =>
                  intro w9 s9
                  have cX : w9.cell? (x.add j) = some (.string sj) := CELL.out w9 s9
                  clear s9
                  go_simp
                  try (with_reducible rfl)
                simp only [List.setIfInBounds_toArray, List.set_cons_zero, List.set_cons_succ]
                refine held_take (i := 8) 174 (v := ?vb2q8x9) rfl rfl (by kernel_rfl) (by kernel_rfl) (by kernel_rfl) (fun _ _ _ h => h) hS (by rfl) ?hb2q8x9 ?rb2q8x9
                case hb2q8x9 =>
                  intro w9 s9
                  clear s9
                  go_simp
                  try (with_reducible rfl)
                simp only [List.setIfInBounds_toArray, List.set_cons_zero, List.set_cons_succ]
                refine held_take (i := 9) 175 (v := ?vb2q9x10) rfl rfl (by kernel_rfl) (by kernel_rfl) (by kernel_rfl) (fun _ _ _ h => h) hS (by rfl) ?hb2q9x10 ?rb2q9x10
                case hb2q9x10 =>
                  intro w9 s9
                  clear s9
                  go_simp
                  try (with_reducible rfl)
                simp only [List.setIfInBounds_toArray, List.set_cons_zero, List.set_cons_succ]
                refine held_take (i := 10) 176 (v := ?vb2q10x11) rfl rfl (by kernel_rfl) (by kernel_rfl) (by kernel_rfl) (fun _ _ _ h => h) hS (by rfl) ?hb2q10x11 ?rb2q10x11
                case hb2q10x11 =>
                  intro w9 s9
                  clear s9
                  go_simp
                  try (with_reducible rfl)
                simp only [List.setIfInBounds_toArray, List.set_cons_zero, List.set_cons_succ]
                refine held_take (i := 11) 177 (v := ?vb2q11x12) rfl rfl (by kernel_rfl) (by kernel_rfl) (by kernel_rfl) (fun _ _ _ h => h) hS (by rfl) ?hb2q11x12 ?rb2q11x12
                case hb2q11x12 =>
                  intro w9 s9
                  have cX : w9.cell? (x.add j) = some (.string sj) := CELL.out w9 s9
                  clear s9
                  go_simp
                  try (with_reducible rfl)
                simp only [List.setIfInBounds_toArray, List.set_cons_zero, List.set_cons_succ]
                refine held_take (i := 12) 178 (v := ?vb2q12x13) rfl rfl (by kernel_rfl) (by kernel_rfl) (by kernel_rfl) (fun _ _ _ h => h) hS (by rfl) ?hb2q12x13 ?rb2q12x13
                case hb2q12x13 =>
                  intro w9 s9
                  clear s9
                  go_simp
                  try (with_reducible rfl)
                simp only [List.setIfInBounds_toArray, List.set_cons_zero, List.set_cons_succ]
                refine held_take (i := 13) 179 (v := ?vb2q13x14) rfl rfl (by kernel_rfl) (by kernel_rfl) (by kernel_rfl) (fun _ _ _ h => h) hS (by rfl) ?hb2q13x14 ?rb2q13x14
                case hb2q13x14 =>
                  intro w9 s9
                  clear s9
                  go_simp
                  try (with_reducible rfl)
                simp only [List.setIfInBounds_toArray, List.set_cons_zero, List.set_cons_succ]
                refine held_take (i := 14) 180 (v := ?vb2q14x15) rfl rfl (by kernel_rfl) (by kernel_rfl) (by kernel_rfl) (fun _ _ _ h => h) hS (by rfl) ?hb2q14x15 ?rb2q14x15
                case hb2q14x15 =>
                  intro w9 s9
                  clear s9
                  go_simp
                  try (with_reducible rfl)
                simp only [List.setIfInBounds_toArray, List.set_cons_zero, List.set_cons_succ]
                refine held_take (i := 15) 181 (v := ?vb2q15x16) rfl rfl (by kernel_rfl) (by kernel_rfl) (by kernel_rfl) (fun _ _ _ h => h) hS (by rfl) ?hb2q15x16 ?rb2q15x16
                case hb2q15x16 =>
                  intro w9 s9
                  clear s9
                  go_simp
                  try (with_reducible rfl)
                simp only [List.setIfInBounds_toArray, List.set_cons_zero, List.set_cons_succ]
                refine held_take (i := 16) 182 (v := ?vb2q16x17) rfl rfl (by kernel_rfl) (by kernel_rfl) (by kernel_rfl) (fun _ _ _ h => h) hS (by rfl) ?hb2q16x17 ?rb2q16x17
                case hb2q16x17 =>
                  intro w9 s9
                  clear s9
                  go_simp
                  try (with_reducible rfl)
                simp only [List.setIfInBounds_toArray, List.set_cons_zero, List.set_cons_succ]
                refine held_take (i := 17) 183 (v := ?vb2q17x18) rfl rfl (by kernel_rfl) (by kernel_rfl) (by kernel_rfl) (fun _ _ _ h => h) hS (by rfl) ?hb2q17x18 ?rb2q17x18
                case hb2q17x18 =>
                  intro w9 s9
                  clear s9
                  go_simp
                  try (with_reducible rfl)
                simp only [List.setIfInBounds_toArray, List.set_cons_zero, List.set_cons_succ]
                refine held_take (i := 18) 184 (v := ?vb2q18x19) rfl rfl (by kernel_rfl) (by kernel_rfl) (by kernel_rfl) (fun _ _ _ h => h) hS (by rfl) ?hb2q18x19 ?rb2q18x19
                case hb2q18x19 =>
                  intro w9 s9
                  clear s9
                  go_simp
                  try (with_reducible rfl)
                simp only [List.setIfInBounds_toArray, List.set_cons_zero, List.set_cons_succ]
                refine held_take (i := 19) 185 (v := ?vb2q19x20) rfl rfl (by kernel_rfl) (by kernel_rfl) (by kernel_rfl) (fun _ _ _ h => h) hS (by rfl) ?hb2q19x20 ?rb2q19x20
                case hb2q19x20 =>
                  intro w9 s9
                  clear s9
                  go_simp
                  try (with_reducible rfl)
                simp only [List.setIfInBounds_toArray, List.set_cons_zero, List.set_cons_succ]
                refine held_take (i := 20) 186 (v := ?vb2q20x21) rfl rfl (by kernel_rfl) (by kernel_rfl) (by kernel_rfl) (fun _ _ _ h => h) hS (by rfl) ?hb2q20x21 ?rb2q20x21
                case hb2q20x21 =>
                  intro w9 s9
                  clear s9
                  go_simp
                  try (with_reducible rfl)
                simp only [List.setIfInBounds_toArray, List.set_cons_zero, List.set_cons_succ]
                refine wpAnyH_done (by kernel_rfl) ?_ _
                have HS10 := Lib.hid (HS9.out.step (Below.refl _ _).drew)
                clear hS HS9

                go_wp2_with fail
                go_roundw
                case rel => exact ⟨j + 1, by have := HLT.out; omega, rfl, HS10⟩
                case measure => have := HLT.out; simp [intOf]; omega
              · obtain rfl : j = m := by omega
                have hge : ¬ (j : Int) < (j : Int) := by omega
                have FR : Hid (∀ wr, DSL w1 wr d s' (agE T j 2 t) (agS j 2 [] []) → Calls Tryd.prog 22 #[.pointer (some ⟨s', 0, none⟩), .int .i64 (p : Int)] wr fun e w' => e = .returned (.bool false) ∧ Below wr.heap.size wr w') := Lib.hid (fun wr h => by
                  have hw := freshS_L h (p : Int)
                  rw [show decide ((p : Int) ∈ (agS j 2 [] []).fresh) = false from rfl] at hw
                  exact hw)
                clear hlt hj
                go_wp2_with fail
                refine (FR.out _ HS.out).mono ?_
                rintro e w12 ⟨rfl, b12⟩
                have HB := Lib.hid (chain B1.out (HS.out.step b12).below)
                clear b12 HS
                go_wp2_with fail
                go_ret
                exact ⟨rfl, HB.out⟩

        · exfalso; omega

    · have hjli : ¬ (j : Int) < (len : Int) := by omega
      have hm8 : j ≤ 8 ∧ j ≤ len := by omega
      clear hj8 hjlen
      obtain ⟨m, rfl⟩ : ∃ m, m = j := ⟨_, rfl⟩
      have HM := Lib.hid hm8.1
      have HLM := Lib.hid hm8.2
      have ew : IntKind.i64.wrap (18 - (m : Int)) = 18 - (m : Int) := IntWalk.i64_in _ (by omega)
      have ex1 : ((18 - (m : Int)) != (18 - (m : Int))) = false := by simp
      by_cases hpos : 0 < m
      · have hpi : (m : Int) > 0 := by omega
        have hpi2 : (0 : Int) < (m : Int) := by omega
        have HP := Lib.hid hpos
        clear hm8 hpos
        go_wp2_with fail
        refine ((fun wr (h : DSL w1 wr d s (ag T m) (hS (tk m))) => by have hw := commit_L h 2 (by decide); rw [ag_commit T m HM.out 2 (.inr ⟨rfl, HP.out⟩)] at hw; exact hw : ∀ wr, DSL w1 wr d s (ag T m) (hS (tk m)) → Calls Tryd.prog 15 #[.pointer (some ⟨s, 0, none⟩), .int .i64 2] wr fun e w' => e = .returned (.int .i64 0) ∧ DSL w1 w' d s (agD T m 2) (agS m 2 [] [])) _ HS.out).mono ?_
        rintro e w3 ⟨rfl, hs⟩
        have HS3 := Lib.hid hs
        clear hs HS
        go_wp2_with fail
        refine ((fun wr (h : DSL w1 wr d s (agD T m 2) (agS m 2 [] [])) => by have hw := left_L h; rw [(agD_ok T m HM.out 2).len, agS_left m HM.out 2] at hw; exact hw : ∀ wr, DSL w1 wr d s (agD T m 2) (agS m 2 [] []) → Calls Tryd.prog 21 #[.pointer (some ⟨s, 0, none⟩)] wr fun e w' => e = .returned (.int .i64 (18 - (m : Int))) ∧ Below wr.heap.size wr w') _ HS3.out).mono ?_
        rintro e w4 ⟨rfl, b4⟩
        have HS4 := Lib.hid (HS3.out.step b4)
        clear b4 HS3
        go_wp2_with fail
        refine ((fun wr (h : DSL w1 wr d s (agD T m 2) (agS m 2 [] [])) => take_L h rfl (m + 2) (by omega) (by rw [(agD_ok T m HM.out 2).len]; have := HM.out; omega) (agS_free m HM.out 2).2 (agS_free m HM.out 2).1 : ∀ wr, DSL w1 wr d s (agD T m 2) (agS m 2 [] []) → Calls Tryd.prog 12 #[.pointer (some ⟨s, 0, none⟩)] wr fun e w' => e = .returned (.tuple #[.int .i64 ((m + 2 : Nat) : Int), .int .i64 0]) ∧ DSL w1 w' d s (agD T m 2) (agS m 2 [((m + 2 : Nat) : Int)] [])) _ HS4.out).mono ?_
        rintro e w5 ⟨rfl, hs⟩
        have HS5 := Lib.hid hs
        clear hs HS4
        obtain ⟨p, hp⟩ : ∃ p : Nat, m + 2 = p := ⟨_, rfl⟩
        rw [hp] at HS5 ⊢
        have HPP := Lib.hid hp
        clear hp
        go_wp2_with fail
        refine ((fun wr (h : DSL w1 wr d s (agD T m 2) (agS m 2 [(p : Int)] [])) => by have hw := writeS_L h (p : Int) 5 t; rw [← HPP.out, agS_write T m HM.out 2 t HT2.out, HPP.out] at hw; exact hw : ∀ wr, DSL w1 wr d s (agD T m 2) (agS m 2 [(p : Int)] []) → Calls Tryd.prog 13 #[.pointer (some ⟨s, 0, none⟩), .int .i64 (p : Int), .int .i64 5, .string t] wr fun e w' => e = .returned (.int .i64 0) ∧ DSL w1 w' d s (agE T m 2 t) (agS m 2 [(p : Int)] [])) _ HS5.out).mono ?_
        rintro e w6 ⟨rfl, hs⟩
        have HS6 := Lib.hid hs
        clear hs HS5
        go_upto_if 98 with fail
        go_cut [1] (fun v wx => (∃ q : Nat, v = .int .i64 (q : Int) ∧ (q : Int) ≤ 9223372036854775807) ∧ w6 = wx)
        case first =>
          have hout := K1.out
          by_cases hneg : a1 < 0
          · have e1 : IntKind.i64.wrap (a1 + 1) = a1 + 1 := IntWalk.i64_in _ (by omega)
            obtain ⟨q, hq⟩ : ∃ q : Nat, -(a1 + 1) = (q : Int) := ⟨(-(a1 + 1)).toNat, by omega⟩
            have e2 : IntKind.i64.wrap (-(a1 + 1)) = (q : Int) := by rw [hq]; exact IntWalk.i64_in _ (by omega)
            have hq2 := Lib.hid (show (q : Int) ≤ 9223372036854775807 by omega)
            clear hq
            clear hout
            go_wp2_with fail
            go_meet
            exact ⟨⟨_, rfl, hq2.out⟩, rfl⟩
          · have hoe : a1 = ((a1.toNat : Nat) : Int) := by omega
            have hq2 := Lib.hid (show ((a1.toNat : Nat) : Int) ≤ 9223372036854775807 by omega)
            generalize a1.toNat = q at hoe hq2
            subst hoe
            clear hout
            have hneg' : ¬ (q : Int) < 0 := by omega
            go_wp2_with fail
            go_meet
            exact ⟨⟨_, rfl, hq2.out⟩, rfl⟩
        case rest =>
          obtain ⟨⟨y, rfl, hy⟩, rfl⟩ := hcut
          have hp0 := HP.out
          have hm8 := HM.out
          obtain ⟨q, hq⟩ : ∃ q, y % m = q := ⟨_, rfl⟩
          have hqm : q < m := by rw [← hq]; exact Nat.mod_lt _ (by omega)
          have hmz : ((m : Int) == 0) = false := by simp; omega
          have hmp : (0 : Int) < (m : Int) := by omega
          have hym : (y : Int).tmod (m : Int) = (q : Int) := by rw [Int.tmod_eq_emod_of_nonneg (by omega)]; rw [← hq]; rfl
          have hye : (y : Int) % (m : Int) = (q : Int) := by rw [← hq]; rfl
          have eg : IntKind.i64.wrap (2 + (q : Int)) = ((q + 2 : Nat) : Int) := by rw [show 2 + (q : Int) = ((q + 2 : Nat) : Int) by omega]; exact IntWalk.i64_in _ (by omega)
          have GV : Hid (∀ wr, DSL w1 wr d s (agE T m 2 t) (agS m 2 [(p : Int)] []) → Calls Tryd.prog 14 #[.pointer (some ⟨s, 0, none⟩), .int .i64 ((q + 2 : Nat) : Int)] wr fun e w' => e = .returned (.int .i64 0) ∧ DSL w1 w' d s (agE T m 2 t) (agS m 2 [(p : Int)] [((q + 2 : Nat) : Int)])) := Lib.hid (fun wr h => by
            have hw := give_L h ((q + 2 : Nat) : Int) (by omega) (fun _ => by omega)
            rw [← HPP.out, agS_give m HM.out 2 q hqm, HPP.out] at hw
            exact hw)
          obtain ⟨g, hg⟩ : ∃ g : Nat, q + 2 = g := ⟨_, rfl⟩
          rw [hg] at GV eg
          clear hg hq hqm hy hp0 hm8
          go_wp2_with fail
          refine (GV.out _ HS6.out).mono ?_
          rintro e w7 ⟨rfl, hs⟩
          have HS7 := Lib.hid hs
          clear hs HS6 GV
          go_wp2_with fail
          refine ((fun wr (h : DSL w1 wr d s (agE T m 2 t) (agS m 2 [(p : Int)] [(g : Int)])) => by have hl := ag_last T m HM.out 2 (.inr ⟨rfl, HP.out⟩) t; have hw := mount_L h hl.1; rw [hl.2] at hw; exact hw : ∀ wr, DSL w1 wr d s (agE T m 2 t) (agS m 2 [(p : Int)] [(g : Int)]) → Calls Tryd.prog 17 #[.pointer (some ⟨d, 0, none⟩)] wr fun e w' => ∃ s', e = .returned (.tuple #[.pointer (some ⟨s', 0, none⟩), .int .i64 0]) ∧ DSL w1 w' d s' (agE T m 2 t) (agS m 2 [] [])) _ HS7.out).mono ?_
          rintro e w8 ⟨s', rfl, hs⟩
          have HS8 := Lib.hid hs
          clear hs HS7
          have sn2 := ptr_nilS ⟨s', 0, none⟩
          have RT : Hid (∀ wr, DSL w1 wr d s' (agE T m 2 t) (agS m 2 [] []) → Calls Tryd.prog 11 #[.pointer (some ⟨s', 0, none⟩)] wr fun e w' => e = .returned (.int .i64 2) ∧ wr = w') := Lib.hid (fun wr h => root_L h)
          have GN : Hid (∀ wr, DSL w1 wr d s' (agE T m 2 t) (agS m 2 [] []) → Calls Tryd.prog 18 #[.pointer (some ⟨s', 0, none⟩)] wr fun e w' => e = .returned (.int .i64 2) ∧ wr = w') := Lib.hid (fun wr h => gen_L h)
          have L2 : Hid (∀ wr, DSL w1 wr d s' (agE T m 2 t) (agS m 2 [] []) → Calls Tryd.prog 21 #[.pointer (some ⟨s', 0, none⟩)] wr fun e w' => e = .returned (.int .i64 (18 - (m : Int))) ∧ Below wr.heap.size wr w') := Lib.hid (fun wr h => by have hw := left_L h; rw [(agE_ok T m HM.out 2 t).len, agS_left m HM.out 2] at hw; exact hw)
          have US : Hid (∀ wr, DSL w1 wr d s' (agE T m 2 t) (agS m 2 [] []) → Calls Tryd.prog 19 #[.pointer (some ⟨s', 0, none⟩)] wr fun e w' => (∃ a cap, e = .returned (.slice a m cap)) ∧ Below wr.heap.size wr w') := Lib.hid (fun wr h => by have hw := used_L h; rw [(agE_ok T m HM.out 2 t).len, agS_used m HM.out 2] at hw; exact hw)
          go_wp2_with fail
          refine (RT.out _ HS8.out).mono ?_
          rintro e w9 ⟨rfl, rfl⟩
          go_wp2_with fail
          refine (GN.out _ HS8.out).mono ?_
          rintro e w9 ⟨rfl, rfl⟩
          go_wp2_with fail
          refine (L2.out _ HS8.out).mono ?_
          rintro e w9 ⟨rfl, b9⟩
          have HS9 := Lib.hid (HS8.out.step b9)
          clear b9 HS8
          go_wp2_with fail
          refine (US.out _ HS9.out).mono ?_
          rintro e w10 ⟨⟨ua, ucap, rfl⟩, b10⟩
          have HSA := Lib.hid (HS9.out.step b10)
          clear b10 HS9 RT GN L2 US
          go_wp2_with fail
          go_loopw [20, 21, 22, 23] (fun i _ _ _ wr => ∃ j : Nat, j ≤ m ∧ i = .int .i64 (j : Int) ∧ Hid (DSL w1 wr d s' (agE T m 2 t) (agS m 2 [] []))) (fun i _ _ _ _ => 9 - (intOf i).toNat)
          case atStart => exact ⟨0, Nat.zero_le _, rfl, HSA⟩
          case round =>
            obtain ⟨j, hj, rfl, HS⟩ := hrel
            have hm8 := HM.out
            by_cases hlt : j < m
            · have hli : (j : Int) < (m : Int) := by omega
              have hlm := HLM.out
              obtain ⟨x, sj, hax, CELL⟩ := CELLS.out j (by omega)
              have hle := (CUT.out j).1
              obtain ⟨mn, hmn⟩ : ∃ mn : Int, (if (240 : Int) < (sj.size : Int) then (240 : Int) else (sj.size : Int)) = mn := ⟨_, rfl⟩
              have hcut := (CUT.out j).2 sj (CELL.out.2) mn hmn
              have RD : Hid (∀ wr, DSL w1 wr d s' (agE T m 2 t) (agS m 2 [] []) → Calls Tryd.prog 20 #[.pointer (some ⟨s', 0, none⟩), .int .i64 ((j + 2 : Nat) : Int)] wr fun e w' => e = .returned (.tuple #[.int .i64 4, .string (T j), .int .i64 0]) ∧ DSL w1 w' d s' (agE T m 2 t) (agS m 2 [] [])) := Lib.hid (fun wr h => by
                have hw := readS_L h ((j + 2 : Nat) : Int)
                have hr := agS_read T m HM.out 2 t j hlt hle
                rw [hr.1, hr.2] at hw
                exact hw)
              replace CELL := Lib.hid CELL.out.1
              have e1 : IntKind.i64.wrap (2 + (j : Int)) = ((j + 2 : Nat) : Int) := by rw [show 2 + (j : Int) = ((j + 2 : Nat) : Int) by omega]; exact IntWalk.i64_in _ (by omega)
              have e4 : IntKind.i64.wrap ((j : Int) + 1) = ((j + 1 : Nat) : Int) := by rw [show (j : Int) + 1 = ((j + 1 : Nat) : Int) by omega]; exact IntWalk.i64_in _ (by omega)
              have hjl : (j : Int) < (len : Int) := by omega
              have HLT := Lib.hid (show j < m ∧ m ≤ 8 by omega)
              have hmin0 : (0 : Int) ≤ mn := by rw [← hmn]; split <;> omega
              have hmin1 : mn ≤ (sj.size : Int) := by rw [← hmn]; split <;> omega
              generalize T j = X at *
              obtain ⟨p2, hp2⟩ : ∃ p2 : Nat, j + 2 = p2 := ⟨_, rfl⟩
              rw [hp2] at RD e1
              subst hax
              clear hp2 hle hj hlt hm8 hlm
              go_wp2_with fail
              refine (RD.out _ HS.out).mono ?_
              rintro e w11 ⟨rfl, hs⟩
              have HS9 := Lib.hid hs
              clear hs HS RD
              go_upto_region 34 with fail
              refine wp_region_held_drew (S := fun w' => Below w.heap.size w w') (by kernel_rfl) (chain B1.out HS9.out.below).drew (fun hS => ?_)
              refine held_take (i := 0) 166 (v := ?vb3q0x1) rfl rfl (by kernel_rfl) (by kernel_rfl) (by kernel_rfl) (fun _ _ _ h => h) hS (by rfl) ?hb3q0x1 ?rb3q0x1
              case hb3q0x1 =>
                intro w9 s9
                clear s9
                go_simp
                try (with_reducible rfl)
              simp only [List.setIfInBounds_toArray, List.set_cons_zero, List.set_cons_succ]
              refine held_take (i := 1) 167 (v := ?vb3q1x2) rfl rfl (by kernel_rfl) (by kernel_rfl) (by kernel_rfl) (fun _ _ _ h => h) hS (by rfl) ?hb3q1x2 ?rb3q1x2
              case hb3q1x2 =>
                intro w9 s9
                clear s9
                go_simp
                try (with_reducible rfl)
              simp only [List.setIfInBounds_toArray, List.set_cons_zero, List.set_cons_succ]
              refine held_take (i := 2) 168 (v := ?vb3q2x3) rfl rfl (by kernel_rfl) (by kernel_rfl) (by kernel_rfl) (fun _ _ _ h => h) hS (by rfl) ?hb3q2x3 ?rb3q2x3
              case hb3q2x3 =>
                intro w9 s9
                clear s9
                go_simp
                try (with_reducible rfl)
              simp only [List.setIfInBounds_toArray, List.set_cons_zero, List.set_cons_succ]
              refine held_take (i := 3) 169 (v := ?vb3q3x4) rfl rfl (by kernel_rfl) (by kernel_rfl) (by kernel_rfl) (fun _ _ _ h => h) hS (by rfl) ?hb3q3x4 ?rb3q3x4
              case hb3q3x4 =>
                intro w9 s9
                clear s9
                go_simp
                try (with_reducible rfl)
              simp only [List.setIfInBounds_toArray, List.set_cons_zero, List.set_cons_succ]
              refine held_take (i := 4) 170 (v := ?vb3q4x5) rfl rfl (by kernel_rfl) (by kernel_rfl) (by kernel_rfl) (fun _ _ _ h => h) hS (by rfl) ?hb3q4x5 ?rb3q4x5
              case hb3q4x5 =>
                intro w9 s9
                clear s9
                go_simp
                try (with_reducible rfl)
              simp only [List.setIfInBounds_toArray, List.set_cons_zero, List.set_cons_succ]
              refine held_take (i := 5) 171 (v := ?vb3q5x6) rfl rfl (by kernel_rfl) (by kernel_rfl) (by kernel_rfl) (fun _ _ _ h => h) hS (by rfl) ?hb3q5x6 ?rb3q5x6
              case hb3q5x6 =>
                intro w9 s9
                clear s9
                go_simp
                try (with_reducible rfl)
              simp only [List.setIfInBounds_toArray, List.set_cons_zero, List.set_cons_succ]
              refine held_take (i := 6) 172 (v := ?vb3q6x7) rfl rfl (by kernel_rfl) (by kernel_rfl) (by kernel_rfl) (fun _ _ _ h => h) hS (by rfl) ?hb3q6x7 ?rb3q6x7
              case hb3q6x7 =>
                intro w9 s9
                clear s9
                go_simp
                try (with_reducible rfl)
              simp only [List.setIfInBounds_toArray, List.set_cons_zero, List.set_cons_succ]
              refine held_take (i := 7) 173 (v := ?vb3q7x8) rfl rfl (by kernel_rfl) (by kernel_rfl) (by kernel_rfl) (fun _ _ _ h => h) hS (by rfl) ?hb3q7x8 ?rb3q7x8
              case hb3q7x8 =>
                intro w9 s9
                have cX : w9.cell? (x.add j) = some (.string sj) := CELL.out w9 s9
                clear s9
                go_simp
                try (with_reducible rfl)
              simp only [List.setIfInBounds_toArray, List.set_cons_zero, List.set_cons_succ]
              refine held_take (i := 8) 174 (v := ?vb3q8x9) rfl rfl (by kernel_rfl) (by kernel_rfl) (by kernel_rfl) (fun _ _ _ h => h) hS (by rfl) ?hb3q8x9 ?rb3q8x9
              case hb3q8x9 =>
                intro w9 s9
                clear s9
                go_simp
                try (with_reducible rfl)
              simp only [List.setIfInBounds_toArray, List.set_cons_zero, List.set_cons_succ]
              refine held_take (i := 9) 175 (v := ?vb3q9x10) rfl rfl (by kernel_rfl) (by kernel_rfl) (by kernel_rfl) (fun _ _ _ h => h) hS (by rfl) ?hb3q9x10 ?rb3q9x10
              case hb3q9x10 =>
                intro w9 s9
                clear s9
                go_simp
                try (with_reducible rfl)
              simp only [List.setIfInBounds_toArray, List.set_cons_zero, List.set_cons_succ]
              refine held_take (i := 10) 176 (v := ?vb3q10x11) rfl rfl (by kernel_rfl) (by kernel_rfl) (by kernel_rfl) (fun _ _ _ h => h) hS (by rfl) ?hb3q10x11 ?rb3q10x11
              case hb3q10x11 =>
                intro w9 s9
                clear s9
                go_simp
                try (with_reducible rfl)
              simp only [List.setIfInBounds_toArray, List.set_cons_zero, List.set_cons_succ]
              refine held_take (i := 11) 177 (v := ?vb3q11x12) rfl rfl (by kernel_rfl) (by kernel_rfl) (by kernel_rfl) (fun _ _ _ h => h) hS (by rfl) ?hb3q11x12 ?rb3q11x12
              case hb3q11x12 =>
                intro w9 s9
                have cX : w9.cell? (x.add j) = some (.string sj) := CELL.out w9 s9
                clear s9
                go_simp
                try (with_reducible rfl)
              simp only [List.setIfInBounds_toArray, List.set_cons_zero, List.set_cons_succ]
              refine held_take (i := 12) 178 (v := ?vb3q12x13) rfl rfl (by kernel_rfl) (by kernel_rfl) (by kernel_rfl) (fun _ _ _ h => h) hS (by rfl) ?hb3q12x13 ?rb3q12x13
              case hb3q12x13 =>
                intro w9 s9
                clear s9
                go_simp
                try (with_reducible rfl)
              simp only [List.setIfInBounds_toArray, List.set_cons_zero, List.set_cons_succ]
              refine held_take (i := 13) 179 (v := ?vb3q13x14) rfl rfl (by kernel_rfl) (by kernel_rfl) (by kernel_rfl) (fun _ _ _ h => h) hS (by rfl) ?hb3q13x14 ?rb3q13x14
              case hb3q13x14 =>
                intro w9 s9
                clear s9
                go_simp
                try (with_reducible rfl)
              simp only [List.setIfInBounds_toArray, List.set_cons_zero, List.set_cons_succ]
              refine held_take (i := 14) 180 (v := ?vb3q14x15) rfl rfl (by kernel_rfl) (by kernel_rfl) (by kernel_rfl) (fun _ _ _ h => h) hS (by rfl) ?hb3q14x15 ?rb3q14x15
              case hb3q14x15 =>
                intro w9 s9
                clear s9
                go_simp
                try (with_reducible rfl)
              simp only [List.setIfInBounds_toArray, List.set_cons_zero, List.set_cons_succ]
              refine held_take (i := 15) 181 (v := ?vb3q15x16) rfl rfl (by kernel_rfl) (by kernel_rfl) (by kernel_rfl) (fun _ _ _ h => h) hS (by rfl) ?hb3q15x16 ?rb3q15x16
              case hb3q15x16 =>
                intro w9 s9
                clear s9
                go_simp
                try (with_reducible rfl)
              simp only [List.setIfInBounds_toArray, List.set_cons_zero, List.set_cons_succ]
              refine held_take (i := 16) 182 (v := ?vb3q16x17) rfl rfl (by kernel_rfl) (by kernel_rfl) (by kernel_rfl) (fun _ _ _ h => h) hS (by rfl) ?hb3q16x17 ?rb3q16x17
              case hb3q16x17 =>
                intro w9 s9
                clear s9
                go_simp
                try (with_reducible rfl)
              simp only [List.setIfInBounds_toArray, List.set_cons_zero, List.set_cons_succ]
              refine held_take (i := 17) 183 (v := ?vb3q17x18) rfl rfl (by kernel_rfl) (by kernel_rfl) (by kernel_rfl) (fun _ _ _ h => h) hS (by rfl) ?hb3q17x18 ?rb3q17x18
              case hb3q17x18 =>
                intro w9 s9
                clear s9
                go_simp
                try (with_reducible rfl)
              simp only [List.setIfInBounds_toArray, List.set_cons_zero, List.set_cons_succ]
              refine held_take (i := 18) 184 (v := ?vb3q18x19) rfl rfl (by kernel_rfl) (by kernel_rfl) (by kernel_rfl) (fun _ _ _ h => h) hS (by rfl) ?hb3q18x19 ?rb3q18x19
              case hb3q18x19 =>
                intro w9 s9
                clear s9
                go_simp
                try (with_reducible rfl)
              simp only [List.setIfInBounds_toArray, List.set_cons_zero, List.set_cons_succ]
              refine held_take (i := 19) 185 (v := ?vb3q19x20) rfl rfl (by kernel_rfl) (by kernel_rfl) (by kernel_rfl) (fun _ _ _ h => h) hS (by rfl) ?hb3q19x20 ?rb3q19x20
              case hb3q19x20 =>
                intro w9 s9
                clear s9
                go_simp
                try (with_reducible rfl)
              simp only [List.setIfInBounds_toArray, List.set_cons_zero, List.set_cons_succ]
              refine held_take (i := 20) 186 (v := ?vb3q20x21) rfl rfl (by kernel_rfl) (by kernel_rfl) (by kernel_rfl) (fun _ _ _ h => h) hS (by rfl) ?hb3q20x21 ?rb3q20x21
              case hb3q20x21 =>
                intro w9 s9
                clear s9
                go_simp
                try (with_reducible rfl)
              simp only [List.setIfInBounds_toArray, List.set_cons_zero, List.set_cons_succ]
              refine wpAnyH_done (by kernel_rfl) ?_ _
              have HS10 := Lib.hid (HS9.out.step (Below.refl _ _).drew)
              clear hS HS9

              go_wp2_with fail
              go_roundw
              case rel => exact ⟨j + 1, by have := HLT.out; omega, rfl, HS10⟩
              case measure => have := HLT.out; simp [intOf]; omega
            · obtain rfl : j = m := by omega
              have hge : ¬ (j : Int) < (j : Int) := by omega
              have FR : Hid (∀ wr, DSL w1 wr d s' (agE T j 2 t) (agS j 2 [] []) → Calls Tryd.prog 22 #[.pointer (some ⟨s', 0, none⟩), .int .i64 (p : Int)] wr fun e w' => e = .returned (.bool false) ∧ Below wr.heap.size wr w') := Lib.hid (fun wr h => by
                have hw := freshS_L h (p : Int)
                rw [show decide ((p : Int) ∈ (agS j 2 [] []).fresh) = false from rfl] at hw
                exact hw)
              clear hlt hj
              go_wp2_with fail
              refine (FR.out _ HS.out).mono ?_
              rintro e w12 ⟨rfl, b12⟩
              have HB := Lib.hid (chain B1.out (HS.out.step b12).below)
              clear b12 HS
              go_wp2_with fail
              go_ret
              exact ⟨rfl, HB.out⟩

      · have hpi : ¬ (m : Int) > 0 := by omega
        have hpi2 : ¬ (0 : Int) < (m : Int) := by omega
        clear hm8 hpos
        go_wp2_with fail
        refine ((fun wr (h : DSL w1 wr d s (ag T m) (hS (tk m))) => by have hw := commit_L h 0 (by decide); rw [ag_commit T m HM.out 0 (.inl rfl)] at hw; exact hw : ∀ wr, DSL w1 wr d s (ag T m) (hS (tk m)) → Calls Tryd.prog 15 #[.pointer (some ⟨s, 0, none⟩), .int .i64 0] wr fun e w' => e = .returned (.int .i64 0) ∧ DSL w1 w' d s (agD T m 0) (agS m 0 [] [])) _ HS.out).mono ?_
        rintro e w3 ⟨rfl, hs⟩
        have HS3 := Lib.hid hs
        clear hs HS
        go_wp2_with fail
        refine ((fun wr (h : DSL w1 wr d s (agD T m 0) (agS m 0 [] [])) => by have hw := left_L h; rw [(agD_ok T m HM.out 0).len, agS_left m HM.out 0] at hw; exact hw : ∀ wr, DSL w1 wr d s (agD T m 0) (agS m 0 [] []) → Calls Tryd.prog 21 #[.pointer (some ⟨s, 0, none⟩)] wr fun e w' => e = .returned (.int .i64 (18 - (m : Int))) ∧ Below wr.heap.size wr w') _ HS3.out).mono ?_
        rintro e w4 ⟨rfl, b4⟩
        have HS4 := Lib.hid (HS3.out.step b4)
        clear b4 HS3
        go_wp2_with fail
        refine ((fun wr (h : DSL w1 wr d s (agD T m 0) (agS m 0 [] [])) => take_L h rfl (m + 2) (by omega) (by rw [(agD_ok T m HM.out 0).len]; have := HM.out; omega) (agS_free m HM.out 0).2 (agS_free m HM.out 0).1 : ∀ wr, DSL w1 wr d s (agD T m 0) (agS m 0 [] []) → Calls Tryd.prog 12 #[.pointer (some ⟨s, 0, none⟩)] wr fun e w' => e = .returned (.tuple #[.int .i64 ((m + 2 : Nat) : Int), .int .i64 0]) ∧ DSL w1 w' d s (agD T m 0) (agS m 0 [((m + 2 : Nat) : Int)] [])) _ HS4.out).mono ?_
        rintro e w5 ⟨rfl, hs⟩
        have HS5 := Lib.hid hs
        clear hs HS4
        obtain ⟨p, hp⟩ : ∃ p : Nat, m + 2 = p := ⟨_, rfl⟩
        rw [hp] at HS5 ⊢
        have HPP := Lib.hid hp
        clear hp
        go_wp2_with fail
        refine ((fun wr (h : DSL w1 wr d s (agD T m 0) (agS m 0 [(p : Int)] [])) => by have hw := writeS_L h (p : Int) 5 t; rw [← HPP.out, agS_write T m HM.out 0 t HT2.out, HPP.out] at hw; exact hw : ∀ wr, DSL w1 wr d s (agD T m 0) (agS m 0 [(p : Int)] []) → Calls Tryd.prog 13 #[.pointer (some ⟨s, 0, none⟩), .int .i64 (p : Int), .int .i64 5, .string t] wr fun e w' => e = .returned (.int .i64 0) ∧ DSL w1 w' d s (agE T m 0 t) (agS m 0 [(p : Int)] [])) _ HS5.out).mono ?_
        rintro e w6 ⟨rfl, hs⟩
        have HS6 := Lib.hid hs
        clear hs HS5
        have HS7 := HS6
        clear HS6
        go_wp2_with fail
        refine ((fun wr (h : DSL w1 wr d s (agE T m 0 t) (agS m 0 [(p : Int)] [])) => by have hl := ag_last T m HM.out 0 (.inl rfl) t; have hw := mount_L h hl.1; rw [hl.2] at hw; exact hw : ∀ wr, DSL w1 wr d s (agE T m 0 t) (agS m 0 [(p : Int)] []) → Calls Tryd.prog 17 #[.pointer (some ⟨d, 0, none⟩)] wr fun e w' => ∃ s', e = .returned (.tuple #[.pointer (some ⟨s', 0, none⟩), .int .i64 0]) ∧ DSL w1 w' d s' (agE T m 0 t) (agS m 0 [] [])) _ HS7.out).mono ?_
        rintro e w8 ⟨s', rfl, hs⟩
        have HS8 := Lib.hid hs
        clear hs HS7
        have sn2 := ptr_nilS ⟨s', 0, none⟩
        have RT : Hid (∀ wr, DSL w1 wr d s' (agE T m 0 t) (agS m 0 [] []) → Calls Tryd.prog 11 #[.pointer (some ⟨s', 0, none⟩)] wr fun e w' => e = .returned (.int .i64 0) ∧ wr = w') := Lib.hid (fun wr h => root_L h)
        have GN : Hid (∀ wr, DSL w1 wr d s' (agE T m 0 t) (agS m 0 [] []) → Calls Tryd.prog 18 #[.pointer (some ⟨s', 0, none⟩)] wr fun e w' => e = .returned (.int .i64 2) ∧ wr = w') := Lib.hid (fun wr h => gen_L h)
        have L2 : Hid (∀ wr, DSL w1 wr d s' (agE T m 0 t) (agS m 0 [] []) → Calls Tryd.prog 21 #[.pointer (some ⟨s', 0, none⟩)] wr fun e w' => e = .returned (.int .i64 (18 - (m : Int))) ∧ Below wr.heap.size wr w') := Lib.hid (fun wr h => by have hw := left_L h; rw [(agE_ok T m HM.out 0 t).len, agS_left m HM.out 0] at hw; exact hw)
        have US : Hid (∀ wr, DSL w1 wr d s' (agE T m 0 t) (agS m 0 [] []) → Calls Tryd.prog 19 #[.pointer (some ⟨s', 0, none⟩)] wr fun e w' => (∃ a cap, e = .returned (.slice a m cap)) ∧ Below wr.heap.size wr w') := Lib.hid (fun wr h => by have hw := used_L h; rw [(agE_ok T m HM.out 0 t).len, agS_used m HM.out 0] at hw; exact hw)
        go_wp2_with fail
        refine (RT.out _ HS8.out).mono ?_
        rintro e w9 ⟨rfl, rfl⟩
        go_wp2_with fail
        refine (GN.out _ HS8.out).mono ?_
        rintro e w9 ⟨rfl, rfl⟩
        go_wp2_with fail
        refine (L2.out _ HS8.out).mono ?_
        rintro e w9 ⟨rfl, b9⟩
        have HS9 := Lib.hid (HS8.out.step b9)
        clear b9 HS8
        go_wp2_with fail
        refine (US.out _ HS9.out).mono ?_
        rintro e w10 ⟨⟨ua, ucap, rfl⟩, b10⟩
        have HSA := Lib.hid (HS9.out.step b10)
        clear b10 HS9 RT GN L2 US
        go_wp2_with fail
        go_loopw [20, 21, 22, 23] (fun i _ _ _ wr => ∃ j : Nat, j ≤ m ∧ i = .int .i64 (j : Int) ∧ Hid (DSL w1 wr d s' (agE T m 0 t) (agS m 0 [] []))) (fun i _ _ _ _ => 9 - (intOf i).toNat)
        case atStart => exact ⟨0, Nat.zero_le _, rfl, HSA⟩
        case round =>
          obtain ⟨j, hj, rfl, HS⟩ := hrel
          have hm8 := HM.out
          by_cases hlt : j < m
          · have hli : (j : Int) < (m : Int) := by omega
            have hlm := HLM.out
            obtain ⟨x, sj, hax, CELL⟩ := CELLS.out j (by omega)
            have hle := (CUT.out j).1
            obtain ⟨mn, hmn⟩ : ∃ mn : Int, (if (240 : Int) < (sj.size : Int) then (240 : Int) else (sj.size : Int)) = mn := ⟨_, rfl⟩
            have hcut := (CUT.out j).2 sj (CELL.out.2) mn hmn
            have RD : Hid (∀ wr, DSL w1 wr d s' (agE T m 0 t) (agS m 0 [] []) → Calls Tryd.prog 20 #[.pointer (some ⟨s', 0, none⟩), .int .i64 ((j + 2 : Nat) : Int)] wr fun e w' => e = .returned (.tuple #[.int .i64 4, .string (T j), .int .i64 0]) ∧ DSL w1 w' d s' (agE T m 0 t) (agS m 0 [] [])) := Lib.hid (fun wr h => by
              have hw := readS_L h ((j + 2 : Nat) : Int)
              have hr := agS_read T m HM.out 0 t j hlt hle
              rw [hr.1, hr.2] at hw
              exact hw)
            replace CELL := Lib.hid CELL.out.1
            have e1 : IntKind.i64.wrap (2 + (j : Int)) = ((j + 2 : Nat) : Int) := by rw [show 2 + (j : Int) = ((j + 2 : Nat) : Int) by omega]; exact IntWalk.i64_in _ (by omega)
            have e4 : IntKind.i64.wrap ((j : Int) + 1) = ((j + 1 : Nat) : Int) := by rw [show (j : Int) + 1 = ((j + 1 : Nat) : Int) by omega]; exact IntWalk.i64_in _ (by omega)
            have hjl : (j : Int) < (len : Int) := by omega
            have HLT := Lib.hid (show j < m ∧ m ≤ 8 by omega)
            have hmin0 : (0 : Int) ≤ mn := by rw [← hmn]; split <;> omega
            have hmin1 : mn ≤ (sj.size : Int) := by rw [← hmn]; split <;> omega
            generalize T j = X at *
            obtain ⟨p2, hp2⟩ : ∃ p2 : Nat, j + 2 = p2 := ⟨_, rfl⟩
            rw [hp2] at RD e1
            subst hax
            clear hp2 hle hj hlt hm8 hlm
            go_wp2_with fail
            refine (RD.out _ HS.out).mono ?_
            rintro e w11 ⟨rfl, hs⟩
            have HS9 := Lib.hid hs
            clear hs HS RD
            go_upto_region 34 with fail
            refine wp_region_held_drew (S := fun w' => Below w.heap.size w w') (by kernel_rfl) (chain B1.out HS9.out.below).drew (fun hS => ?_)
            refine held_take (i := 0) 166 (v := ?vb4q0x1) rfl rfl (by kernel_rfl) (by kernel_rfl) (by kernel_rfl) (fun _ _ _ h => h) hS (by rfl) ?hb4q0x1 ?rb4q0x1
            case hb4q0x1 =>
              intro w9 s9
              clear s9
              go_simp
              try (with_reducible rfl)
            simp only [List.setIfInBounds_toArray, List.set_cons_zero, List.set_cons_succ]
            refine held_take (i := 1) 167 (v := ?vb4q1x2) rfl rfl (by kernel_rfl) (by kernel_rfl) (by kernel_rfl) (fun _ _ _ h => h) hS (by rfl) ?hb4q1x2 ?rb4q1x2
            case hb4q1x2 =>
              intro w9 s9
              clear s9
              go_simp
              try (with_reducible rfl)
            simp only [List.setIfInBounds_toArray, List.set_cons_zero, List.set_cons_succ]
            refine held_take (i := 2) 168 (v := ?vb4q2x3) rfl rfl (by kernel_rfl) (by kernel_rfl) (by kernel_rfl) (fun _ _ _ h => h) hS (by rfl) ?hb4q2x3 ?rb4q2x3
            case hb4q2x3 =>
              intro w9 s9
              clear s9
              go_simp
              try (with_reducible rfl)
            simp only [List.setIfInBounds_toArray, List.set_cons_zero, List.set_cons_succ]
            refine held_take (i := 3) 169 (v := ?vb4q3x4) rfl rfl (by kernel_rfl) (by kernel_rfl) (by kernel_rfl) (fun _ _ _ h => h) hS (by rfl) ?hb4q3x4 ?rb4q3x4
            case hb4q3x4 =>
              intro w9 s9
              clear s9
              go_simp
              try (with_reducible rfl)
            simp only [List.setIfInBounds_toArray, List.set_cons_zero, List.set_cons_succ]
            refine held_take (i := 4) 170 (v := ?vb4q4x5) rfl rfl (by kernel_rfl) (by kernel_rfl) (by kernel_rfl) (fun _ _ _ h => h) hS (by rfl) ?hb4q4x5 ?rb4q4x5
            case hb4q4x5 =>
              intro w9 s9
              clear s9
              go_simp
              try (with_reducible rfl)
            simp only [List.setIfInBounds_toArray, List.set_cons_zero, List.set_cons_succ]
            refine held_take (i := 5) 171 (v := ?vb4q5x6) rfl rfl (by kernel_rfl) (by kernel_rfl) (by kernel_rfl) (fun _ _ _ h => h) hS (by rfl) ?hb4q5x6 ?rb4q5x6
            case hb4q5x6 =>
              intro w9 s9
              clear s9
              go_simp
              try (with_reducible rfl)
            simp only [List.setIfInBounds_toArray, List.set_cons_zero, List.set_cons_succ]
            refine held_take (i := 6) 172 (v := ?vb4q6x7) rfl rfl (by kernel_rfl) (by kernel_rfl) (by kernel_rfl) (fun _ _ _ h => h) hS (by rfl) ?hb4q6x7 ?rb4q6x7
            case hb4q6x7 =>
              intro w9 s9
              clear s9
              go_simp
              try (with_reducible rfl)
            simp only [List.setIfInBounds_toArray, List.set_cons_zero, List.set_cons_succ]
            refine held_take (i := 7) 173 (v := ?vb4q7x8) rfl rfl (by kernel_rfl) (by kernel_rfl) (by kernel_rfl) (fun _ _ _ h => h) hS (by rfl) ?hb4q7x8 ?rb4q7x8
            case hb4q7x8 =>
              intro w9 s9
              have cX : w9.cell? (x.add j) = some (.string sj) := CELL.out w9 s9
              clear s9
              go_simp
              try (with_reducible rfl)
            simp only [List.setIfInBounds_toArray, List.set_cons_zero, List.set_cons_succ]
            refine held_take (i := 8) 174 (v := ?vb4q8x9) rfl rfl (by kernel_rfl) (by kernel_rfl) (by kernel_rfl) (fun _ _ _ h => h) hS (by rfl) ?hb4q8x9 ?rb4q8x9
            case hb4q8x9 =>
              intro w9 s9
              clear s9
              go_simp
              try (with_reducible rfl)
            simp only [List.setIfInBounds_toArray, List.set_cons_zero, List.set_cons_succ]
            refine held_take (i := 9) 175 (v := ?vb4q9x10) rfl rfl (by kernel_rfl) (by kernel_rfl) (by kernel_rfl) (fun _ _ _ h => h) hS (by rfl) ?hb4q9x10 ?rb4q9x10
            case hb4q9x10 =>
              intro w9 s9
              clear s9
              go_simp
              try (with_reducible rfl)
            simp only [List.setIfInBounds_toArray, List.set_cons_zero, List.set_cons_succ]
            refine held_take (i := 10) 176 (v := ?vb4q10x11) rfl rfl (by kernel_rfl) (by kernel_rfl) (by kernel_rfl) (fun _ _ _ h => h) hS (by rfl) ?hb4q10x11 ?rb4q10x11
            case hb4q10x11 =>
              intro w9 s9
              clear s9
              go_simp
              try (with_reducible rfl)
            simp only [List.setIfInBounds_toArray, List.set_cons_zero, List.set_cons_succ]
            refine held_take (i := 11) 177 (v := ?vb4q11x12) rfl rfl (by kernel_rfl) (by kernel_rfl) (by kernel_rfl) (fun _ _ _ h => h) hS (by rfl) ?hb4q11x12 ?rb4q11x12
            case hb4q11x12 =>
              intro w9 s9
              have cX : w9.cell? (x.add j) = some (.string sj) := CELL.out w9 s9
              clear s9
              go_simp
              try (with_reducible rfl)
            simp only [List.setIfInBounds_toArray, List.set_cons_zero, List.set_cons_succ]
            refine held_take (i := 12) 178 (v := ?vb4q12x13) rfl rfl (by kernel_rfl) (by kernel_rfl) (by kernel_rfl) (fun _ _ _ h => h) hS (by rfl) ?hb4q12x13 ?rb4q12x13
            case hb4q12x13 =>
              intro w9 s9
              clear s9
              go_simp
              try (with_reducible rfl)
            simp only [List.setIfInBounds_toArray, List.set_cons_zero, List.set_cons_succ]
            refine held_take (i := 13) 179 (v := ?vb4q13x14) rfl rfl (by kernel_rfl) (by kernel_rfl) (by kernel_rfl) (fun _ _ _ h => h) hS (by rfl) ?hb4q13x14 ?rb4q13x14
            case hb4q13x14 =>
              intro w9 s9
              clear s9
              go_simp
              try (with_reducible rfl)
            simp only [List.setIfInBounds_toArray, List.set_cons_zero, List.set_cons_succ]
            refine held_take (i := 14) 180 (v := ?vb4q14x15) rfl rfl (by kernel_rfl) (by kernel_rfl) (by kernel_rfl) (fun _ _ _ h => h) hS (by rfl) ?hb4q14x15 ?rb4q14x15
            case hb4q14x15 =>
              intro w9 s9
              clear s9
              go_simp
              try (with_reducible rfl)
            simp only [List.setIfInBounds_toArray, List.set_cons_zero, List.set_cons_succ]
            refine held_take (i := 15) 181 (v := ?vb4q15x16) rfl rfl (by kernel_rfl) (by kernel_rfl) (by kernel_rfl) (fun _ _ _ h => h) hS (by rfl) ?hb4q15x16 ?rb4q15x16
            case hb4q15x16 =>
              intro w9 s9
              clear s9
              go_simp
              try (with_reducible rfl)
            simp only [List.setIfInBounds_toArray, List.set_cons_zero, List.set_cons_succ]
            refine held_take (i := 16) 182 (v := ?vb4q16x17) rfl rfl (by kernel_rfl) (by kernel_rfl) (by kernel_rfl) (fun _ _ _ h => h) hS (by rfl) ?hb4q16x17 ?rb4q16x17
            case hb4q16x17 =>
              intro w9 s9
              clear s9
              go_simp
              try (with_reducible rfl)
            simp only [List.setIfInBounds_toArray, List.set_cons_zero, List.set_cons_succ]
            refine held_take (i := 17) 183 (v := ?vb4q17x18) rfl rfl (by kernel_rfl) (by kernel_rfl) (by kernel_rfl) (fun _ _ _ h => h) hS (by rfl) ?hb4q17x18 ?rb4q17x18
            case hb4q17x18 =>
              intro w9 s9
              clear s9
              go_simp
              try (with_reducible rfl)
            simp only [List.setIfInBounds_toArray, List.set_cons_zero, List.set_cons_succ]
            refine held_take (i := 18) 184 (v := ?vb4q18x19) rfl rfl (by kernel_rfl) (by kernel_rfl) (by kernel_rfl) (fun _ _ _ h => h) hS (by rfl) ?hb4q18x19 ?rb4q18x19
            case hb4q18x19 =>
              intro w9 s9
              clear s9
              go_simp
              try (with_reducible rfl)
            simp only [List.setIfInBounds_toArray, List.set_cons_zero, List.set_cons_succ]
            refine held_take (i := 19) 185 (v := ?vb4q19x20) rfl rfl (by kernel_rfl) (by kernel_rfl) (by kernel_rfl) (fun _ _ _ h => h) hS (by rfl) ?hb4q19x20 ?rb4q19x20
            case hb4q19x20 =>
              intro w9 s9
              clear s9
              go_simp
              try (with_reducible rfl)
            simp only [List.setIfInBounds_toArray, List.set_cons_zero, List.set_cons_succ]
            refine held_take (i := 20) 186 (v := ?vb4q20x21) rfl rfl (by kernel_rfl) (by kernel_rfl) (by kernel_rfl) (fun _ _ _ h => h) hS (by rfl) ?hb4q20x21 ?rb4q20x21
            case hb4q20x21 =>
              intro w9 s9
              clear s9
              go_simp
              try (with_reducible rfl)
            simp only [List.setIfInBounds_toArray, List.set_cons_zero, List.set_cons_succ]
            refine wpAnyH_done (by kernel_rfl) ?_ _
            have HS10 := Lib.hid (HS9.out.step (Below.refl _ _).drew)
            clear hS HS9

            go_wp2_with fail
            go_roundw
            case rel => exact ⟨j + 1, by have := HLT.out; omega, rfl, HS10⟩
            case measure => have := HLT.out; simp [intOf]; omega
          · obtain rfl : j = m := by omega
            have hge : ¬ (j : Int) < (j : Int) := by omega
            have FR : Hid (∀ wr, DSL w1 wr d s' (agE T j 0 t) (agS j 0 [] []) → Calls Tryd.prog 22 #[.pointer (some ⟨s', 0, none⟩), .int .i64 (p : Int)] wr fun e w' => e = .returned (.bool false) ∧ Below wr.heap.size wr w') := Lib.hid (fun wr h => by
              have hw := freshS_L h (p : Int)
              rw [show decide ((p : Int) ∈ (agS j 0 [] []).fresh) = false from rfl] at hw
              exact hw)
            clear hlt hj
            go_wp2_with fail
            refine (FR.out _ HS.out).mono ?_
            rintro e w12 ⟨rfl, b12⟩
            have HB := Lib.hid (chain B1.out (HS.out.step b12).below)
            clear b12 HS
            go_wp2_with fail
            go_ret
            exact ⟨rfl, HB.out⟩

end Go.Proofs.YtbjmbndeaobbeaaDoor
