/-
  The law ShadowGives.
-/
import Derived.Test.YtbjmbndeaobbeaaDoorShGv
import Derived.Deep.DeepCutAuto
namespace Go.Proofs.YtbjmbndeaobbeaaDoor
open Go.RowKit
set_option linter.unusedVariables false
set_option linter.unusedSimpArgs false
set_option maxHeartbeats 6400000 in
set_option maxRecDepth 20000 in
theorem shadowGives_law (a0 : Int) (a1 : ByteArray) (w : World) (v0 : (Lit.int .i64 a0).wf = true) (z1 : a1.size ≤ 140737488351232) :
    Calls Tryd.prog 5 #[.int .i64 a0, .string a1] w fun e w' => e = .returned (.bool true) ∧ Below w.heap.size w w' := by
  have MD := Lib.hid (fun w => made_is w 12 (by decide) (by decide))
  clear z1
  have K0 := Lib.hid (bounds_i64 v0)
  clear v0
  obtain ⟨X, hX⟩ : ∃ X, gvX = X := ⟨_, rfl⟩
  have HX : Hid (gvX = X) := Lib.hid hX
  have hX' : (⟨#[120]⟩ : ByteArray) = X := hX
  go_enter Tryd.func5, Tryd.ntmps5
  try simp only [List.append_eq, List.cons_append, List.nil_append]
  go_wp2_with fail
  refine (examples_yes _).mono ?_
  rintro e w1 ⟨rfl, b1⟩
  have B1 := Lib.hid b1
  clear b1
  go_wp2_with fail
  refine (MD.out _).mono ?_
  rintro e w2 ⟨d, s, rfl, hs⟩
  have HS2 : Hid (DSL w1 w2 d s (gv 0).1 (gv 0).2) := Lib.hid (by rw [gv_0]; exact hs)
  clear hs MD
  have sn := ptr_nilS ⟨s, 0, none⟩
  go_wp2_with fail
  go_loopw [8, 9, 10] (fun i _ _ wr => ∃ j : Nat, j ≤ 9 ∧ i = .int .i64 (j : Int) ∧ Hid (DSL w1 wr d s (gv j).1 (gv j).2)) (fun i _ _ _ => 10 - (intOf i).toNat)
  case atStart => exact ⟨0, by omega, rfl, HS2⟩
  case round =>
    obtain ⟨j, hj, rfl, HS⟩ := hrel
    by_cases hlt : j < 9
    · have hli : (j : Int) < 9 := by omega
      have gu := gv_up j hlt
      have TK := Lib.hid (fun wr (h : DSL w1 wr d s (gv j).1 (gv j).2) => take_L h gu.1 (j + 2) (by omega) (by rw [gu.2.1]; omega) (fun k h1 h2 => (gv_free j hlt).2 k h2 h1) (gv_free j hlt).1)
      have WR : Hid (∀ wr, DSL w1 wr d s (gv j).1 { (gv j).2 with fresh := (gv j).2.fresh ++ [((j + 2 : Nat) : Int)] } → Calls Tryd.prog 13 #[.pointer (some ⟨s, 0, none⟩), .int .i64 ((j + 2 : Nat) : Int), .int .i64 3, .string gvX] wr fun e w' => e = .returned (.int .i64 0) ∧ DSL w1 w' d s (gv (j + 1)).1 (gv (j + 1)).2) := Lib.hid (fun wr h => by
        have hw := writeS_L (st := gvT (gv j).2 j) h ((j + 2 : Nat) : Int) 3 gvX
        rw [gu.2.2] at hw
        rw [gv_succ]
        exact hw)
      have e4 : IntKind.i64.wrap ((j : Int) + 1) = ((j + 1 : Nat) : Int) := by rw [show (j : Int) + 1 = ((j + 1 : Nat) : Int) by omega]; exact IntWalk.i64_in _ (by omega)
      rw [HX.out] at WR
      clear gu
      obtain ⟨p, hp⟩ : ∃ p : Nat, j + 2 = p := ⟨_, rfl⟩
      rw [hp] at TK WR
      clear hp
      have HLT := Lib.hid hlt
      clear hlt
      go_wp2_with fail
      refine (TK.out _ HS.out).mono ?_
      rintro e w3 ⟨rfl, hs⟩
      have HS3 := Lib.hid hs
      clear hs HS
      go_wp2_with fail
      refine (WR.out _ HS3.out).mono ?_
      rintro e w4 ⟨rfl, hs⟩
      have HS4 := Lib.hid hs
      clear hs HS3
      go_wp2_with fail
      go_roundw
      case rel => exact ⟨j + 1, HLT.out, rfl, HS4⟩
      case measure => have := HLT.out; simp [intOf]; omega
    · obtain rfl : j = 9 := by omega
      have hge : ¬ ((9 : Nat) : Int) < 9 := by decide
      have CM : Hid (∀ wr, DSL w1 wr d s (gv 9).1 (gv 9).2 → Calls Tryd.prog 15 #[.pointer (some ⟨s, 0, none⟩), .int .i64 0] wr fun e w' => e = .returned (.int .i64 0) ∧ DSL w1 w' d s gvD (gvG [])) := Lib.hid (fun wr h => by
        have hw := commit_L h 0 (by decide)
        rw [gv_commit.1, gvD_eq, gvS_eq, gvG_start] at hw
        exact hw)
      have LE : Hid (∀ wr L, DSL w1 wr d s gvD (gvG L) → Calls Tryd.prog 21 #[.pointer (some ⟨s, 0, none⟩)] wr fun e w' => e = .returned (.int .i64 1) ∧ Below wr.heap.size wr w') := Lib.hid (fun wr L h => by
        have hw := left_L h
        rw [gvG_left] at hw
        exact hw)
      clear hlt hj
      go_wp2_with fail
      refine (CM.out _ HS.out).mono ?_
      rintro e w3 ⟨rfl, hs⟩
      have HS3 := Lib.hid hs
      clear hs HS CM
      go_wp2_with fail
      refine (LE.out _ _ HS3.out).mono ?_
      rintro e w4 ⟨rfl, b4⟩
      have HS4 := Lib.hid (HS3.out.step b4)
      clear b4 HS3
      go_wp2_with fail
      go_loopw [11, 12, 13, 14, 15, 16] (fun c i _ _ _ _ wr => ∃ (j : Nat) (L : List Int), j ≤ 9 ∧ i = .int .i64 (j : Int) ∧ c = .int .i64 (L.length : Int) ∧ Hid (L.length ≤ j) ∧ Hid (L ∈ subs j) ∧ Hid (DSL w1 wr d s gvD (gvG L))) (fun _ i _ _ _ _ _ => 10 - (intOf i).toNat)
      case atStart => exact ⟨0, [], by omega, rfl, rfl, Lib.hid (Nat.le_refl _), Lib.hid (by simp [subs]), HS4⟩
      case round =>
        obtain ⟨j, L, hj, rfl, rfl, HC, HM, HS⟩ := hrel
        by_cases hlt : j < 9
        · have hli : (j : Int) < 9 := by omega
          have e1 : IntKind.i64.wrap ((j : Int) + 2) = ((j + 2 : Nat) : Int) := by rw [show (j : Int) + 2 = ((j + 2 : Nat) : Int) by omega]; exact IntWalk.i64_in _ (by omega)
          have e4 : IntKind.i64.wrap ((j : Int) + 1) = ((j + 1 : Nat) : Int) := by rw [show (j : Int) + 1 = ((j + 1 : Nat) : Int) by omega]; exact IntWalk.i64_in _ (by omega)
          have e5 : IntKind.i64.wrap ((L.length : Int) + 1) = ((L.length + 1 : Nat) : Int) := by have := HC.out; rw [show (L.length : Int) + 1 = ((L.length + 1 : Nat) : Int) by omega]; exact IntWalk.i64_in _ (by omega)
          have WR : Hid (∀ wr t, DSL w1 wr d s gvD (gvG L) → Calls Tryd.prog 13 #[.pointer (some ⟨s, 0, none⟩), .int .i64 ((j + 2 : Nat) : Int), .int .i64 3, .string t] wr fun e w' => e = .returned (.int .i64 6) ∧ DSL w1 w' d s gvD (gvG L)) := Lib.hid (fun wr t h => by
            have hw := writeS_L h ((j + 2 : Nat) : Int) 3 t
            rw [gvG_write] at hw
            exact hw)
          have G1 : Hid (∀ wr, DSL w1 wr d s gvD (gvG L) → Calls Tryd.prog 14 #[.pointer (some ⟨s, 0, none⟩), .int .i64 ((j + 2 : Nat) : Int)] wr fun e w' => e = .returned (.int .i64 0) ∧ DSL w1 w' d s gvD (gvG (L ++ [((j + 2 : Nat) : Int)]))) := Lib.hid (fun wr h => by
            have hw := give_L h ((j + 2 : Nat) : Int) (by omega) (fun _ => by omega)
            rw [gvG_give L j hlt HM.out] at hw
            exact hw)
          have G2 : Hid (∀ wr, DSL w1 wr d s gvD (gvG (L ++ [((j + 2 : Nat) : Int)])) → Calls Tryd.prog 14 #[.pointer (some ⟨s, 0, none⟩), .int .i64 ((j + 2 : Nat) : Int)] wr fun e w' => e = .returned (.int .i64 6) ∧ DSL w1 w' d s gvD (gvG (L ++ [((j + 2 : Nat) : Int)]))) := Lib.hid (fun wr h => by
            have hw := give_L h ((j + 2 : Nat) : Int) (by omega) (fun _ => by omega)
            rw [gvG_again _ _ (by simp)] at hw
            exact hw)
          have RD : Hid (∀ wr M, DSL w1 wr d s gvD (gvG M) → Calls Tryd.prog 20 #[.pointer (some ⟨s, 0, none⟩), .int .i64 ((j + 2 : Nat) : Int)] wr fun e w' => e = .returned (.tuple #[.int .i64 3, .string gvX, .int .i64 0]) ∧ DSL w1 w' d s gvD (gvG M)) := Lib.hid (fun wr M h => by
            have hw := readS_L h ((j + 2 : Nat) : Int)
            rw [(gvG_read M j hlt).1, (gvG_read M j hlt).2] at hw
            exact hw)
          rw [HX.out] at RD
          have SN := Lib.hid (subs_no HM.out)
          have SY := Lib.hid (subs_yes HM.out)
          have SL : Hid ((L ++ [((j + 2 : Nat) : Int)]).length = L.length + 1) := Lib.hid (by simp)
          obtain ⟨p, hp⟩ : ∃ p : Nat, j + 2 = p := ⟨_, rfl⟩
          rw [hp] at WR G1 G2 RD e1 SY SL
          clear hp hj
          have HLT := Lib.hid hlt
          clear hlt
          go_wp2_with fail
          refine (WR.out _ _ HS.out).mono ?_
          rintro e w5 ⟨rfl, hs⟩
          have HS5 := Lib.hid hs
          clear hs HS WR
          go_wp2_with fail
          · go_wp2_with fail
            go_roundw
            case rel => exact ⟨j + 1, L, HLT.out, rfl, rfl, Lib.hid (by have := HC.out; omega), SN, HS5⟩
            case measure => have := HLT.out; simp [intOf]; omega
          · refine (G1.out _ HS5.out).mono ?_
            rintro e w6 ⟨rfl, hs⟩
            have HS6 := Lib.hid hs
            clear hs HS5 G1
            go_wp2_with fail
            refine (G2.out _ HS6.out).mono ?_
            rintro e w7 ⟨rfl, hs⟩
            have HS7 := Lib.hid hs
            clear hs HS6 G2
            go_wp2_with fail
            refine (RD.out _ _ HS7.out).mono ?_
            rintro e w8 ⟨rfl, hs⟩
            have HS8 := Lib.hid hs
            clear hs HS7 RD
            go_wp2_with fail
            go_roundw
            case rel => exact ⟨j + 1, L ++ [(p : Int)], HLT.out, rfl, by rw [SL.out]; rfl, Lib.hid (by rw [SL.out]; have := HC.out; omega), SY, HS8⟩
            case measure => have := HLT.out; simp [intOf]; omega
        · obtain rfl : j = 9 := by omega
          have hge : ¬ ((9 : Nat) : Int) < 9 := by decide
          have GF := Lib.hid (gvC_facts L HM.out)
          have GC := Lib.hid (gvG_commit L)
          obtain ⟨D2, hD2⟩ : ∃ D2, (wrHead gvD.sync.1 (nextH (gvG L) 0)).1 = D2 := ⟨_, rfl⟩
          rw [hD2] at GC
          have CM : Hid (∀ wr, DSL w1 wr d s gvD (gvG L) → Calls Tryd.prog 15 #[.pointer (some ⟨s, 0, none⟩), .int .i64 0] wr fun e w' => e = .returned (.int .i64 0) ∧ DSL w1 w' d s D2 (gvC L)) := Lib.hid (fun wr h => by
            have hw := commit_L h 0 (by decide)
            rw [GC.out.1] at hw
            exact hw)
          have L2 : Hid (∀ wr, DSL w1 wr d s D2 (gvC L) → Calls Tryd.prog 21 #[.pointer (some ⟨s, 0, none⟩)] wr fun e w' => e = .returned (.int .i64 (1 + (L.length : Int))) ∧ Below wr.heap.size wr w') := Lib.hid (fun wr h => by
            have hw := left_L h
            rw [GC.out.2, GF.out.1] at hw
            exact hw)
          have US : Hid (∀ wr, DSL w1 wr d s D2 (gvC L) → Calls Tryd.prog 19 #[.pointer (some ⟨s, 0, none⟩)] wr fun e w' => (∃ a cap, e = .returned (.slice a (usedN (gvC L) 12) cap)) ∧ Below wr.heap.size wr w') := Lib.hid (fun wr h => by
            have hw := used_L h
            rw [GC.out.2] at hw
            exact hw)
          have G1 : Hid (∀ wr, DSL w1 wr d s D2 (gvC L) → Calls Tryd.prog 14 #[.pointer (some ⟨s, 0, none⟩), .int .i64 11] wr fun e w' => e = .returned (.int .i64 6) ∧ DSL w1 w' d s D2 (gvC L)) := Lib.hid (fun wr h => by
            have hw := give_L h 11 (by decide) (fun hb => by rw [GF.out.2.2.2.2.1] at hb; cases hb)
            rw [GF.out.2.2.1] at hw
            exact hw)
          have G2 : Hid (∀ wr, DSL w1 wr d s D2 (gvC L) → Calls Tryd.prog 14 #[.pointer (some ⟨s, 0, none⟩), .int .i64 0] wr fun e w' => e = .returned (.int .i64 6) ∧ DSL w1 w' d s D2 (gvC L)) := Lib.hid (fun wr h => by
            have hw := give_L h 0 (by decide) (fun hb => by rw [GF.out.2.2.2.2.2.1] at hb; cases hb)
            rw [GF.out.2.2.2.1] at hw
            exact hw)
          have hu2 := GF.out.2.1
          have hl9 := GF.out.2.2.2.2.2.2
          generalize usedN (gvC L) 12 = U at US hu2
          have e1 : IntKind.i64.wrap (1 + (L.length : Int)) = 1 + (L.length : Int) := IntWalk.i64_in _ (by omega)
          have e2 : IntKind.i64.wrap (9 - (L.length : Int)) = 9 - (L.length : Int) := IntWalk.i64_in _ (by omega)
          have e3 : ((1 + (L.length : Int)) == (1 + (L.length : Int))) = true := by simp
          have e6 : (((U : Nat) : Int) == (9 - (L.length : Int))) = true := by simpa using hu2
          have e7 : (((U : Nat) : Int) = (9 - (L.length : Int))) := hu2
          clear hlt hj hu2 hl9 hD2 GF GC HM HC
          generalize L.length = ll at *
          go_wp2_with fail
          refine (LE.out _ _ HS.out).mono ?_
          rintro e w5 ⟨rfl, b5⟩
          have HS5 := Lib.hid (HS.out.step b5)
          clear b5 HS
          go_wp2_with fail
          refine (CM.out _ HS5.out).mono ?_
          rintro e w6 ⟨rfl, hs⟩
          have HS6 := Lib.hid hs
          clear hs HS5
          go_wp2_with fail
          refine (L2.out _ HS6.out).mono ?_
          rintro e w7 ⟨rfl, b7⟩
          have HS7 := Lib.hid (HS6.out.step b7)
          clear b7 HS6
          go_wp2_with fail
          refine (US.out _ HS7.out).mono ?_
          rintro e w8 ⟨⟨a, cap, rfl⟩, b8⟩
          have HS8 := Lib.hid (HS7.out.step b8)
          clear b8 HS7
          go_wp2_with fail
          refine (G1.out _ HS8.out).mono ?_
          rintro e w9 ⟨rfl, hs⟩
          have HS9 := Lib.hid hs
          clear hs HS8
          go_wp2_with fail
          refine (G2.out _ HS9.out).mono ?_
          rintro e w10 ⟨rfl, hs⟩
          have HB := Lib.hid (chain B1.out hs.below)
          clear hs HS9
          go_wp2_with fail
          go_ret
          exact ⟨rfl, HB.out⟩
end Go.Proofs.YtbjmbndeaobbeaaDoor
