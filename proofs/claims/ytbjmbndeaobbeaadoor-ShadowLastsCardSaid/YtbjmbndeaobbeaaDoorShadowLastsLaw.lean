/-
  The law ShadowLasts.
-/
import Derived.Test.YtbjmbndeaobbeaaDoorShLa
import Derived.Test.YtbjmbndeaobbeaaDoorShTx
import Derived.Test.YtbjmbndeaobbeaaDoorHeld
import Derived.Deep.DeepCutAuto
namespace Go.Proofs.YtbjmbndeaobbeaaDoor
open Go.RowKit
set_option linter.unusedVariables false
set_option linter.unusedSimpArgs false
theorem DSL.lower {w0 w1 w : World} {d s : Nat} {dk : DkS} {st : ShS} (b : Below w0.heap.size w0 w1) (h : DSL w1 w d s dk st) : DSL w0 w d s dk st := by
  obtain ⟨FD, FS, h1, h2, h3, h4⟩ := h
  exact ⟨FD, FS, h1, chain b h2, fun k hk => Nat.le_trans b.size (h3 k hk), fun k hk => Nat.le_trans b.size (h4 k hk)⟩
/-- What stands between two rounds: k commits are sure, u were tried. -/
structure LaI (T : Nat → ByteArray) (len : Nat) (dk : DkS) (st : ShS) (k u : Nat) : Prop where
  ok : LaOk dk k T
  u12 : u ≤ 12
  ul : u ≤ len
  alt : (dk.up = true ∧ st = laS k [] [] ∧ u = k) ∨ (dk.up = false ∧ u = k + 1)
set_option maxHeartbeats 12800000 in
set_option maxRecDepth 20000 in
theorem shadowLasts_law (a : Option Addr) (len cap : Nat) (ss : List ByteArray) (a1 : Int) (ka : Option Addr) (klen kcap : Nat) (zs : List Int) (w : World) (hk : IsStrs w a len cap ss) (v1 : (Lit.int .i64 a1).wf = true) (hkk : IsInts .i64 w ka klen kcap zs) :
    Calls Tryd.prog 3 #[.slice a len cap, .int .i64 a1, .slice ka klen kcap] w fun e w' => e = .returned (.bool true) ∧ Below w.heap.size w w' := by
  have MD := Lib.hid (fun w => made_is w 20 (by decide) (by decide))
  have K1 := Lib.hid (bounds_i64 v1)
  have CELLS := Lib.hid (text_cellA hk)
  have HKK := Lib.hid hkk
  have hlenL : (len : Int) ≤ 9223372036854775807 := by
    rcases hk with ⟨_, rfl, _, _⟩ | ⟨_, _, h1, h2, _⟩
    · decide
    · unfold maxLen at h2; omega
  obtain ⟨T, hT⟩ : ∃ T : Nat → ByteArray, T = fun j => cut240 (ss.getD j ByteArray.empty) := ⟨_, rfl⟩
  have CUT : Hid (∀ j, (T j).size ≤ 240 ∧ ∀ s, ss.getD j ByteArray.empty = s → ∀ mn : Int, (if (240 : Int) < (s.size : Int) then (240 : Int) else (s.size : Int)) = mn → s.extract 0 mn.toNat = T j) := Lib.hid (fun j => by
    subst hT
    exact ⟨cut240_le _, fun s hs mn hm => by subst hs; subst hm; rfl⟩)
  clear v1 hk hT hkk
  go_enter Tryd.func3, Tryd.ntmps3
  try simp only [List.append_eq, List.cons_append, List.nil_append]
  go_wp2_with fail
  refine (examples_yes _).mono ?_
  rintro e w1 ⟨rfl, b1⟩
  have B1 := Lib.hid b1
  clear b1
  go_wp2_with fail
  refine (MD.out _).mono ?_
  rintro e w2 ⟨d, s, rfl, hs⟩
  have HS2 := Lib.hid (DSL.lower B1.out hs)
  have CRASH := Lib.hid (fun wr dk (h : DkL w wr d dk) => crash_L h ka klen kcap zs HKK.out)
  clear hs MD B1
  have sn := ptr_nilS ⟨s, 0, none⟩
  go_upto_if 33 with fail
  go_cut [1] (fun v wx => (∃ q : Nat, v = .int .i64 (q : Int) ∧ (q : Int) ≤ 9223372036854775807) ∧ w2 = wx)
  case first =>
    have hout := K1.out
    by_cases hneg : a1 < 0
    · have e1 : IntKind.i64.wrap (a1 + 1) = a1 + 1 := IntWalk.i64_in _ (by omega)
      obtain ⟨q, hq⟩ : ∃ q : Nat, -(a1 + 1) = (q : Int) := ⟨(-(a1 + 1)).toNat, by omega⟩
      have e2 : IntKind.i64.wrap (-(a1 + 1)) = (q : Int) := by rw [hq]; exact IntWalk.i64_in _ (by omega)
      have hq2 := Lib.hid (show (q : Int) ≤ 9223372036854775807 by omega)
      clear hq
      clear hout
      go_wp2_with fail
      go_meet
      exact ⟨⟨_, rfl, hq2.out⟩, rfl⟩
    · have hoe : a1 = ((a1.toNat : Nat) : Int) := by omega
      have hq2 := Lib.hid (show ((a1.toNat : Nat) : Int) ≤ 9223372036854775807 by omega)
      generalize a1.toNat = q at hoe hq2
      subst hoe
      clear hout
      have hneg' : ¬ (q : Int) < 0 := by omega
      go_wp2_with fail
      go_meet
      exact ⟨⟨_, rfl, hq2.out⟩, rfl⟩
  case rest =>
    obtain ⟨⟨y, rfl, hy⟩, rfl⟩ := hcut
    obtain ⟨q, hq⟩ : ∃ q, y % 30 = q := ⟨_, rfl⟩
    have hq30 : q < 30 := by rw [← hq]; exact Nat.mod_lt _ (by decide)
    have hym : (y : Int).tmod 30 = (q : Int) := by rw [Int.tmod_eq_emod_of_nonneg (by omega)]; rw [← hq]; rfl
    have hye : (y : Int) % 30 = (q : Int) := by rw [← hq]; rfl
    have FU : Hid (∀ wr, DSL w wr d s (wrHead (DkS.fresh 20) fmtH).1 (ShS.new fmtH) → Calls Tryd.prog 9 #[.pointer (some ⟨d, 0, none⟩), .int .i64 (q : Int)] wr fun e w' => e = .returned (.tuple #[]) ∧ DSL w w' d s { (wrHead (DkS.fresh 20) fmtH).1 with fuse := (q : Int) } (ShS.new fmtH)) := Lib.hid (fun wr h => fuseS_L h (q : Int) (q : Int) (.inr ⟨by omega, rfl⟩) (by omega))
    clear hq hq30 hy
    go_wp2_with fail
    refine (FU.out _ HS2.out).mono ?_
    rintro e w3 ⟨rfl, hs⟩
    have HS0 : Hid (∃ dk st, LaI T len dk st 0 0 ∧ DSL w w3 d s dk st) := Lib.hid ⟨_, _, ⟨LaOk.start T (q : Int), Nat.zero_le _, Nat.zero_le _, .inl ⟨by show (wrHead (DkS.fresh 20) fmtH).1.up = true; exact (wrHead_fresh 20 (by decide) (by decide)).2.2, rfl, rfl⟩⟩, hs⟩
    clear hs HS2 FU hym hye
    go_wp2_with fail
    go_loopw [10, 11, 12, 13, 14, 15, 16] (fun c t i _ _ _ _ wr => ∃ (k u : Nat) (dk : DkS) (st : ShS), c = .int .i64 (k : Int) ∧ t = .int .i64 (u : Int) ∧ i = .int .i64 (u : Int) ∧ Hid (LaI T len dk st k u) ∧ Hid (DSL w wr d s dk st)) (fun _ _ i _ _ _ _ _ => 13 - (intOf i).toNat)
    case atStart =>
      obtain ⟨dk, st, h1, h2⟩ := HS0.out
      exact ⟨0, 0, dk, st, rfl, rfl, rfl, Lib.hid h1, Lib.hid h2⟩
    case round =>
      obtain ⟨k, u, dk, st, rfl, rfl, rfl, HI, HS⟩ := hrel
      by_cases hul : u < len
      · have huli : (u : Int) < (len : Int) := by omega
        by_cases hu12 : u < 12
        · have hu12i : (u : Int) < 12 := by omega
          have UPS := Lib.hid (fun wr (h : DSL w wr d s dk st) => up_L h.dkL)
          rcases HI.out.alt with ⟨hup, hst, huk⟩ | ⟨hup, huk⟩
          · have huk2 := huk.symm
            subst huk2
            subst hst
            rw [hup] at UPS
            have HUP := Lib.hid hup
            have HOK := Lib.hid HI.out.ok
            have HK := Lib.hid (And.intro hu12 hul)
            obtain ⟨n, hn⟩ : ∃ n, laN k = n := ⟨_, rfl⟩
            have hn2 : 2 ≤ n ∧ n ≤ 3 := by rw [← hn]; exact laN_in k
            obtain ⟨x, sj, hax, CELL⟩ := CELLS.out k hul
            have hle := (CUT.out k).1
            obtain ⟨mn, hmn⟩ : ∃ mn : Int, (if (240 : Int) < (sj.size : Int) then (240 : Int) else (sj.size : Int)) = mn := ⟨_, rfl⟩
            have hcut := (CUT.out k).2 sj (CELL.out.2) mn hmn
            replace CELL := Lib.hid CELL.out.1
            have TK : Hid (∀ wr, DSL w wr d s dk (laS k [] []) → Calls Tryd.prog 12 #[.pointer (some ⟨s, 0, none⟩)] wr fun e w' => e = .returned (.tuple #[.int .i64 (n : Int), .int .i64 0]) ∧ DSL w w' d s dk (laS k [(n : Int)] [])) := Lib.hid (fun wr h => by
              have hf := la_dec k (by omega)
              rw [hn] at hf
              exact take_L h rfl n hn2.1 (by rw [HOK.out.len]; omega) (fun i h1 h2 => hf.2.1 i h2 h1) hf.1)
            have LW0 := la_write HOK.out hu12 HUP.out hle
            rw [hn] at LW0
            obtain ⟨⟨dw, sw, ew⟩, hWR⟩ : ∃ R, (laS k [(n : Int)] []).write dk (n : Int) 2 (T k) = R := ⟨_, rfl⟩
            rw [hWR] at LW0
            have LW : Hid ((dk.fuse ≠ 0 ∧ (dw, sw, ew) = (dk.wrote n (pgL 2 (T k).data.toList), laS k [(n : Int)] [], (0 : Int))) ∨ (ew = 5 ∧ LaOk dw k T ∧ dw.up = false)) := Lib.hid (by
              unfold LaW at LW0
              rw [hn] at LW0
              exact LW0)
            have WR : Hid (∀ wr, DSL w wr d s dk (laS k [(n : Int)] []) → Calls Tryd.prog 13 #[.pointer (some ⟨s, 0, none⟩), .int .i64 (n : Int), .int .i64 2, .string (T k)] wr fun e w' => e = .returned (.int .i64 ew) ∧ DSL w w' d s dw sw) := Lib.hid (fun wr h => by
              have hw := writeS_L h (n : Int) 2 (T k)
              rw [hWR] at hw
              exact hw)
            rw [← hcut] at WR
            have e4 : IntKind.i64.wrap ((k : Int) + 1) = ((k + 1 : Nat) : Int) := by rw [show (k : Int) + 1 = ((k + 1 : Nat) : Int) by omega]; exact IntWalk.i64_in _ (by omega)
            have hmin0 : (0 : Int) ≤ mn := by rw [← hmn]; split <;> omega
            have hmin1 : mn ≤ (sj.size : Int) := by rw [← hmn]; split <;> omega
            subst hax
            clear hWR LW0 hle hcut hup hul hu12 HI
            go_wp2_with fail
            refine (UPS.out _ HS.out).mono ?_
            rintro e wx ⟨rfl, rfl⟩
            clear UPS
            by_cases hk0 : k = 0
            · have HG0 : Hid (laG k = []) := Lib.hid (by unfold laG; rw [if_pos hk0])
              have hr0 : laR k = 0 := by rw [hk0]; rfl
              have RT : Hid (∀ wr, DSL w wr d s dk (laS k [] []) → Calls Tryd.prog 11 #[.pointer (some ⟨s, 0, none⟩)] wr fun e w' => e = .returned (.int .i64 0) ∧ wr = w') := Lib.hid (fun wr h => by
                have hw := root_L h
                rw [show (laS k [] []).h.root = 0 by show (laR k : Int) = _; rw [hr0]; rfl] at hw
                exact hw)
              clear hr0 hk0
              go_wp2_with fail
              refine (RT.out _ HS.out).mono ?_
              rintro e w3 ⟨rfl, rfl⟩
              clear RT
              go_wp2_with fail
              refine (TK.out _ HS.out).mono ?_
              rintro e w3 ⟨rfl, hs⟩
              have HS3 := Lib.hid hs
              clear hs HS TK
              go_upto_region 20 with fail
              refine wp_region_held_drew (S := fun w' => Below w.heap.size w w') (by kernel_rfl) HS3.out.below.drew (fun hS => ?_)
              refine held_take (i := 0) 66 (v := ?va1q0x1) rfl rfl (by kernel_rfl) (by kernel_rfl) (by kernel_rfl) (fun _ _ _ h => h) hS (by rfl) ?ha1q0x1 ?ra1q0x1
              case ha1q0x1 =>
                intro w9 s9
                clear s9
                go_simp
                try (with_reducible rfl)
              simp only [List.setIfInBounds_toArray, List.set_cons_zero, List.set_cons_succ]
              refine held_take (i := 1) 67 (v := ?va1q1x2) rfl rfl (by kernel_rfl) (by kernel_rfl) (by kernel_rfl) (fun _ _ _ h => h) hS (by rfl) ?ha1q1x2 ?ra1q1x2
              case ha1q1x2 =>
                intro w9 s9
                clear s9
                go_simp
                try (with_reducible rfl)
              simp only [List.setIfInBounds_toArray, List.set_cons_zero, List.set_cons_succ]
              refine held_take (i := 2) 68 (v := ?va1q2x3) rfl rfl (by kernel_rfl) (by kernel_rfl) (by kernel_rfl) (fun _ _ _ h => h) hS (by rfl) ?ha1q2x3 ?ra1q2x3
              case ha1q2x3 =>
                intro w9 s9
                clear s9
                go_simp
                try (with_reducible rfl)
              simp only [List.setIfInBounds_toArray, List.set_cons_zero, List.set_cons_succ]
              refine held_take (i := 3) 69 (v := ?va1q3x4) rfl rfl (by kernel_rfl) (by kernel_rfl) (by kernel_rfl) (fun _ _ _ h => h) hS (by rfl) ?ha1q3x4 ?ra1q3x4
              case ha1q3x4 =>
                intro w9 s9
                clear s9
                go_simp
                try (with_reducible rfl)
              simp only [List.setIfInBounds_toArray, List.set_cons_zero, List.set_cons_succ]
              refine held_take (i := 4) 70 (v := ?va1q4x5) rfl rfl (by kernel_rfl) (by kernel_rfl) (by kernel_rfl) (fun _ _ _ h => h) hS (by rfl) ?ha1q4x5 ?ra1q4x5
              case ha1q4x5 =>
                intro w9 s9
                clear s9
                go_simp
                try (with_reducible rfl)
              simp only [List.setIfInBounds_toArray, List.set_cons_zero, List.set_cons_succ]
              refine held_take (i := 5) 71 (v := ?va1q5x6) rfl rfl (by kernel_rfl) (by kernel_rfl) (by kernel_rfl) (fun _ _ _ h => h) hS (by rfl) ?ha1q5x6 ?ra1q5x6
              case ha1q5x6 =>
                intro w9 s9
                have cX : w9.cell? (x.add k) = some (.string sj) := CELL.out w9 s9
                clear s9
                go_simp
                try (with_reducible rfl)
              simp only [List.setIfInBounds_toArray, List.set_cons_zero, List.set_cons_succ]
              refine held_take (i := 6) 72 (v := ?va1q6x7) rfl rfl (by kernel_rfl) (by kernel_rfl) (by kernel_rfl) (fun _ _ _ h => h) hS (by rfl) ?ha1q6x7 ?ra1q6x7
              case ha1q6x7 =>
                intro w9 s9
                clear s9
                go_simp
                try (with_reducible rfl)
              simp only [List.setIfInBounds_toArray, List.set_cons_zero, List.set_cons_succ]
              refine held_take (i := 7) 73 (v := ?va1q7x8) rfl rfl (by kernel_rfl) (by kernel_rfl) (by kernel_rfl) (fun _ _ _ h => h) hS (by rfl) ?ha1q7x8 ?ra1q7x8
              case ha1q7x8 =>
                intro w9 s9
                clear s9
                go_simp
                try (with_reducible rfl)
              simp only [List.setIfInBounds_toArray, List.set_cons_zero, List.set_cons_succ]
              refine held_take (i := 8) 74 (v := ?va1q8x9) rfl rfl (by kernel_rfl) (by kernel_rfl) (by kernel_rfl) (fun _ _ _ h => h) hS (by rfl) ?ha1q8x9 ?ra1q8x9
              case ha1q8x9 =>
                intro w9 s9
                clear s9
                go_simp
                try (with_reducible rfl)
              simp only [List.setIfInBounds_toArray, List.set_cons_zero, List.set_cons_succ]
              refine held_take (i := 9) 75 (v := ?va1q9x10) rfl rfl (by kernel_rfl) (by kernel_rfl) (by kernel_rfl) (fun _ _ _ h => h) hS (by rfl) ?ha1q9x10 ?ra1q9x10
              case ha1q9x10 =>
                intro w9 s9
                have cX : w9.cell? (x.add k) = some (.string sj) := CELL.out w9 s9
                clear s9
                go_simp
                try (with_reducible rfl)
              simp only [List.setIfInBounds_toArray, List.set_cons_zero, List.set_cons_succ]
              refine held_take (i := 10) 76 (v := ?va1q10x11) rfl rfl (by kernel_rfl) (by kernel_rfl) (by kernel_rfl) (fun _ _ _ h => h) hS (by rfl) ?ha1q10x11 ?ra1q10x11
              case ha1q10x11 =>
                intro w9 s9
                clear s9
                go_simp
                try (with_reducible rfl)
              simp only [List.setIfInBounds_toArray, List.set_cons_zero, List.set_cons_succ]
              refine held_take (i := 11) 77 (v := ?va1q11x12) rfl rfl (by kernel_rfl) (by kernel_rfl) (by kernel_rfl) (fun _ _ _ h => h) hS (by rfl) ?ha1q11x12 ?ra1q11x12
              case ha1q11x12 =>
                intro w9 s9
                clear s9
                go_simp
                try (with_reducible rfl)
              simp only [List.setIfInBounds_toArray, List.set_cons_zero, List.set_cons_succ]
              refine held_take (i := 12) 78 (v := ?va1q12x13) rfl rfl (by kernel_rfl) (by kernel_rfl) (by kernel_rfl) (fun _ _ _ h => h) hS (by rfl) ?ha1q12x13 ?ra1q12x13
              case ha1q12x13 =>
                intro w9 s9
                clear s9
                go_simp
                try (with_reducible rfl)
              simp only [List.setIfInBounds_toArray, List.set_cons_zero, List.set_cons_succ]
              refine held_step (i := 13) rfl (by kernel_rfl) (fun K hK => ?_)
              have HK := Lib.hid hK
              clear hK
              go_simp
              go_wp2_with fail
              refine (WR.out _ (HS3.out.step (Below.refl _ _).drew)).mono ?_
              rintro e v4 ⟨rfl, hs⟩
              refine HK.out _ _ ?_ ?_
              · exact hs.below
              clear HK K
              try simp only [Act.put, List.setIfInBounds_toArray, List.set_cons_zero, List.set_cons_succ]
              have hS9 := hs.below
              clear hS
              have hS := hS9
              clear hS9
              have HS4 := Lib.hid hs
              clear hs
              refine held_take (i := 14) 16 (v := ?va1q14x14) rfl rfl (by kernel_rfl) (by kernel_rfl) (by kernel_rfl) (fun _ _ _ h => h) hS (by rfl) ?ha1q14x14 ?ra1q14x14
              case ha1q14x14 =>
                intro w9 s9
                clear s9
                go_simp
                try (with_reducible rfl)
              simp only [List.setIfInBounds_toArray, List.set_cons_zero, List.set_cons_succ]
              refine wpAnyH_done (by kernel_rfl) ?_ _
              clear hS HS3 WR

              rcases LW.out with ⟨f0, hR⟩ | ⟨e1, e3, e4'⟩
              · injection hR with hd hR
                injection hR with hst he
                subst hd hst he
                clear f0 LW
                have HG : Hid (DSL w v4 d s (dk.wrote n (pgL 2 (T k).data.toList)) (laS k [(n : Int)] (laG k))) := Lib.hid (by rw [HG0.out]; exact HS4.out)
                clear HS4
                have hC := la_commit HOK.out HK.out.1 HUP.out
                rw [hn] at hC
                obtain ⟨⟨dc, sc, ec⟩, hCR⟩ : ∃ R, (laS k [(n : Int)] (laG k)).commit (dk.wrote n (pgL 2 (T k).data.toList)) (n : Int) = R := ⟨_, rfl⟩
                rw [hCR] at hC
                have CM : Hid (∀ wr, DSL w wr d s (dk.wrote n (pgL 2 (T k).data.toList)) (laS k [(n : Int)] (laG k)) → Calls Tryd.prog 15 #[.pointer (some ⟨s, 0, none⟩), .int .i64 (n : Int)] wr fun e w' => e = .returned (.int .i64 ec) ∧ DSL w w' d s dc sc) := Lib.hid (fun wr h => by
                  have hw := commit_L h (n : Int) (by omega)
                  rw [hCR] at hw
                  exact hw)
                clear hCR
                rcases hC with ⟨e1, e2, e3, e4'⟩ | ⟨e1, e3, e4'⟩
                · try dsimp only at e1 e2 e3 e4'
                  subst e1
                  have HF := Lib.hid (show LaI T len dc sc (k + 1) (k + 1) from ⟨e3, by have := HK.out; omega, by have := HK.out; omega, .inl ⟨e4', e2, rfl⟩⟩)
                  clear e2 e3 e4'
                  go_wp2_with fail
                  refine (CM.out _ HG.out).mono ?_
                  rintro e w6 ⟨rfl, hs⟩
                  have HSE := Lib.hid hs
                  clear hs CM HG
                  go_wp2_with fail
                  go_roundw
                  case rel => exact ⟨k + 1, k + 1, _, _, rfl, rfl, rfl, HF, HSE⟩
                  case measure => have := HK.out; simp [intOf]; omega

                · try dsimp only at e1 e3 e4'
                  subst e1
                  have HF := Lib.hid (show LaI T len dc sc k (k + 1) from ⟨e3, by have := HK.out; omega, by have := HK.out; omega, .inr ⟨e4', rfl⟩⟩)
                  clear e3 e4'
                  go_wp2_with fail
                  refine (CM.out _ HG.out).mono ?_
                  rintro e w6 ⟨rfl, hs⟩
                  have HSE := Lib.hid hs
                  clear hs CM HG
                  go_wp2_with fail
                  go_roundw
                  case rel => exact ⟨k, k + 1, _, _, rfl, rfl, rfl, HF, HSE⟩
                  case measure => have := HK.out; simp [intOf]; omega

              · try dsimp only at e1 e3 e4'
                subst e1
                have HF := Lib.hid (show LaI T len dw sw k (k + 1) from ⟨e3, by have := HK.out; omega, by have := HK.out; omega, .inr ⟨e4', rfl⟩⟩)
                clear e3 e4' LW
                go_wp2_with fail
                go_roundw
                case rel => exact ⟨k, k + 1, _, _, rfl, rfl, rfl, HF, HS4⟩
                case measure => have := HK.out; simp [intOf]; omega

            · obtain ⟨r, hr⟩ : ∃ r, laR k = r := ⟨_, rfl⟩
              have hr2 : 2 ≤ r := by rw [← hr]; obtain ⟨i, rfl⟩ : ∃ i, k = i + 1 := ⟨k - 1, by omega⟩; exact (laN_in i).1
              have hr3 : r ≤ 3 := by rw [← hr]; exact laR_le k
              have hrz : ((r : Int) == 0) = false := by simp; omega
              have hrn : ((r : Int) != 0) = true := by simp; omega
              have HR := Lib.hid hr
              have RT : Hid (∀ wr, DSL w wr d s dk (laS k [] []) → Calls Tryd.prog 11 #[.pointer (some ⟨s, 0, none⟩)] wr fun e w' => e = .returned (.int .i64 (r : Int)) ∧ wr = w') := Lib.hid (fun wr h => by
                have hw := root_L h
                rw [show (laS k [] []).h.root = (r : Int) by show (laR k : Int) = _; rw [hr]] at hw
                exact hw)
              have GV : Hid (∀ wr, DSL w wr d s (dk.wrote n (pgL 2 (T k).data.toList)) (laS k [(n : Int)] []) → Calls Tryd.prog 14 #[.pointer (some ⟨s, 0, none⟩), .int .i64 (r : Int)] wr fun e w' => e = .returned (.int .i64 0) ∧ DSL w w' d s (dk.wrote n (pgL 2 (T k).data.toList)) (laS k [(n : Int)] (laG k))) := Lib.hid (fun wr h => by
                have hw := give_L h (r : Int) (by omega) (fun _ => by omega)
                have hg := la_give k HK.out.1 (by omega)
                rw [hn, HR.out] at hg
                rw [hg] at hw
                exact hw)
              clear hr hr2 hr3 hk0
              go_wp2_with fail
              refine (RT.out _ HS.out).mono ?_
              rintro e w3 ⟨rfl, rfl⟩
              clear RT
              go_wp2_with fail
              refine (TK.out _ HS.out).mono ?_
              rintro e w3 ⟨rfl, hs⟩
              have HS3 := Lib.hid hs
              clear hs HS TK
              go_upto_region 20 with fail
              refine wp_region_held_drew (S := fun w' => Below w.heap.size w w') (by kernel_rfl) HS3.out.below.drew (fun hS => ?_)
              refine held_take (i := 0) 66 (v := ?va2q0x1) rfl rfl (by kernel_rfl) (by kernel_rfl) (by kernel_rfl) (fun _ _ _ h => h) hS (by rfl) ?ha2q0x1 ?ra2q0x1
              case ha2q0x1 =>
                intro w9 s9
                clear s9
                go_simp
                try (with_reducible rfl)
              simp only [List.setIfInBounds_toArray, List.set_cons_zero, List.set_cons_succ]
              refine held_take (i := 1) 67 (v := ?va2q1x2) rfl rfl (by kernel_rfl) (by kernel_rfl) (by kernel_rfl) (fun _ _ _ h => h) hS (by rfl) ?ha2q1x2 ?ra2q1x2
              case ha2q1x2 =>
                intro w9 s9
                clear s9
                go_simp
                try (with_reducible rfl)
              simp only [List.setIfInBounds_toArray, List.set_cons_zero, List.set_cons_succ]
              refine held_take (i := 2) 68 (v := ?va2q2x3) rfl rfl (by kernel_rfl) (by kernel_rfl) (by kernel_rfl) (fun _ _ _ h => h) hS (by rfl) ?ha2q2x3 ?ra2q2x3
              case ha2q2x3 =>
                intro w9 s9
                clear s9
                go_simp
                try (with_reducible rfl)
              simp only [List.setIfInBounds_toArray, List.set_cons_zero, List.set_cons_succ]
              refine held_take (i := 3) 69 (v := ?va2q3x4) rfl rfl (by kernel_rfl) (by kernel_rfl) (by kernel_rfl) (fun _ _ _ h => h) hS (by rfl) ?ha2q3x4 ?ra2q3x4
              case ha2q3x4 =>
                intro w9 s9
                clear s9
                go_simp
                try (with_reducible rfl)
              simp only [List.setIfInBounds_toArray, List.set_cons_zero, List.set_cons_succ]
              refine held_take (i := 4) 70 (v := ?va2q4x5) rfl rfl (by kernel_rfl) (by kernel_rfl) (by kernel_rfl) (fun _ _ _ h => h) hS (by rfl) ?ha2q4x5 ?ra2q4x5
              case ha2q4x5 =>
                intro w9 s9
                clear s9
                go_simp
                try (with_reducible rfl)
              simp only [List.setIfInBounds_toArray, List.set_cons_zero, List.set_cons_succ]
              refine held_take (i := 5) 71 (v := ?va2q5x6) rfl rfl (by kernel_rfl) (by kernel_rfl) (by kernel_rfl) (fun _ _ _ h => h) hS (by rfl) ?ha2q5x6 ?ra2q5x6
              case ha2q5x6 =>
                intro w9 s9
                have cX : w9.cell? (x.add k) = some (.string sj) := CELL.out w9 s9
                clear s9
                go_simp
                try (with_reducible rfl)
              simp only [List.setIfInBounds_toArray, List.set_cons_zero, List.set_cons_succ]
              refine held_take (i := 6) 72 (v := ?va2q6x7) rfl rfl (by kernel_rfl) (by kernel_rfl) (by kernel_rfl) (fun _ _ _ h => h) hS (by rfl) ?ha2q6x7 ?ra2q6x7
              case ha2q6x7 =>
                intro w9 s9
                clear s9
                go_simp
                try (with_reducible rfl)
              simp only [List.setIfInBounds_toArray, List.set_cons_zero, List.set_cons_succ]
              refine held_take (i := 7) 73 (v := ?va2q7x8) rfl rfl (by kernel_rfl) (by kernel_rfl) (by kernel_rfl) (fun _ _ _ h => h) hS (by rfl) ?ha2q7x8 ?ra2q7x8
              case ha2q7x8 =>
                intro w9 s9
                clear s9
                go_simp
                try (with_reducible rfl)
              simp only [List.setIfInBounds_toArray, List.set_cons_zero, List.set_cons_succ]
              refine held_take (i := 8) 74 (v := ?va2q8x9) rfl rfl (by kernel_rfl) (by kernel_rfl) (by kernel_rfl) (fun _ _ _ h => h) hS (by rfl) ?ha2q8x9 ?ra2q8x9
              case ha2q8x9 =>
                intro w9 s9
                clear s9
                go_simp
                try (with_reducible rfl)
              simp only [List.setIfInBounds_toArray, List.set_cons_zero, List.set_cons_succ]
              refine held_take (i := 9) 75 (v := ?va2q9x10) rfl rfl (by kernel_rfl) (by kernel_rfl) (by kernel_rfl) (fun _ _ _ h => h) hS (by rfl) ?ha2q9x10 ?ra2q9x10
              case ha2q9x10 =>
                intro w9 s9
                have cX : w9.cell? (x.add k) = some (.string sj) := CELL.out w9 s9
                clear s9
                go_simp
                try (with_reducible rfl)
              simp only [List.setIfInBounds_toArray, List.set_cons_zero, List.set_cons_succ]
              refine held_take (i := 10) 76 (v := ?va2q10x11) rfl rfl (by kernel_rfl) (by kernel_rfl) (by kernel_rfl) (fun _ _ _ h => h) hS (by rfl) ?ha2q10x11 ?ra2q10x11
              case ha2q10x11 =>
                intro w9 s9
                clear s9
                go_simp
                try (with_reducible rfl)
              simp only [List.setIfInBounds_toArray, List.set_cons_zero, List.set_cons_succ]
              refine held_take (i := 11) 77 (v := ?va2q11x12) rfl rfl (by kernel_rfl) (by kernel_rfl) (by kernel_rfl) (fun _ _ _ h => h) hS (by rfl) ?ha2q11x12 ?ra2q11x12
              case ha2q11x12 =>
                intro w9 s9
                clear s9
                go_simp
                try (with_reducible rfl)
              simp only [List.setIfInBounds_toArray, List.set_cons_zero, List.set_cons_succ]
              refine held_take (i := 12) 78 (v := ?va2q12x13) rfl rfl (by kernel_rfl) (by kernel_rfl) (by kernel_rfl) (fun _ _ _ h => h) hS (by rfl) ?ha2q12x13 ?ra2q12x13
              case ha2q12x13 =>
                intro w9 s9
                clear s9
                go_simp
                try (with_reducible rfl)
              simp only [List.setIfInBounds_toArray, List.set_cons_zero, List.set_cons_succ]
              refine held_step (i := 13) rfl (by kernel_rfl) (fun K hK => ?_)
              have HK := Lib.hid hK
              clear hK
              go_simp
              go_wp2_with fail
              refine (WR.out _ (HS3.out.step (Below.refl _ _).drew)).mono ?_
              rintro e v4 ⟨rfl, hs⟩
              refine HK.out _ _ ?_ ?_
              · exact hs.below
              clear HK K
              try simp only [Act.put, List.setIfInBounds_toArray, List.set_cons_zero, List.set_cons_succ]
              have hS9 := hs.below
              clear hS
              have hS := hS9
              clear hS9
              have HS4 := Lib.hid hs
              clear hs
              refine held_take (i := 14) 16 (v := ?va2q14x14) rfl rfl (by kernel_rfl) (by kernel_rfl) (by kernel_rfl) (fun _ _ _ h => h) hS (by rfl) ?ha2q14x14 ?ra2q14x14
              case ha2q14x14 =>
                intro w9 s9
                clear s9
                go_simp
                try (with_reducible rfl)
              simp only [List.setIfInBounds_toArray, List.set_cons_zero, List.set_cons_succ]
              refine wpAnyH_done (by kernel_rfl) ?_ _
              clear hS HS3 WR

              rcases LW.out with ⟨f0, hR⟩ | ⟨e1, e3, e4'⟩
              · injection hR with hd hR
                injection hR with hst he
                subst hd hst he
                clear f0 LW
                go_wp2_with fail
                refine (GV.out _ HS4.out).mono ?_
                rintro e v5 ⟨rfl, hs⟩
                have HG := Lib.hid hs
                clear hs HS4 GV
                have hC := la_commit HOK.out HK.out.1 HUP.out
                rw [hn] at hC
                obtain ⟨⟨dc, sc, ec⟩, hCR⟩ : ∃ R, (laS k [(n : Int)] (laG k)).commit (dk.wrote n (pgL 2 (T k).data.toList)) (n : Int) = R := ⟨_, rfl⟩
                rw [hCR] at hC
                have CM : Hid (∀ wr, DSL w wr d s (dk.wrote n (pgL 2 (T k).data.toList)) (laS k [(n : Int)] (laG k)) → Calls Tryd.prog 15 #[.pointer (some ⟨s, 0, none⟩), .int .i64 (n : Int)] wr fun e w' => e = .returned (.int .i64 ec) ∧ DSL w w' d s dc sc) := Lib.hid (fun wr h => by
                  have hw := commit_L h (n : Int) (by omega)
                  rw [hCR] at hw
                  exact hw)
                clear hCR
                rcases hC with ⟨e1, e2, e3, e4'⟩ | ⟨e1, e3, e4'⟩
                · try dsimp only at e1 e2 e3 e4'
                  subst e1
                  have HF := Lib.hid (show LaI T len dc sc (k + 1) (k + 1) from ⟨e3, by have := HK.out; omega, by have := HK.out; omega, .inl ⟨e4', e2, rfl⟩⟩)
                  clear e2 e3 e4'
                  go_wp2_with fail
                  refine (CM.out _ HG.out).mono ?_
                  rintro e w6 ⟨rfl, hs⟩
                  have HSE := Lib.hid hs
                  clear hs CM HG
                  go_wp2_with fail
                  go_roundw
                  case rel => exact ⟨k + 1, k + 1, _, _, rfl, rfl, rfl, HF, HSE⟩
                  case measure => have := HK.out; simp [intOf]; omega

                · try dsimp only at e1 e3 e4'
                  subst e1
                  have HF := Lib.hid (show LaI T len dc sc k (k + 1) from ⟨e3, by have := HK.out; omega, by have := HK.out; omega, .inr ⟨e4', rfl⟩⟩)
                  clear e3 e4'
                  go_wp2_with fail
                  refine (CM.out _ HG.out).mono ?_
                  rintro e w6 ⟨rfl, hs⟩
                  have HSE := Lib.hid hs
                  clear hs CM HG
                  go_wp2_with fail
                  go_roundw
                  case rel => exact ⟨k, k + 1, _, _, rfl, rfl, rfl, HF, HSE⟩
                  case measure => have := HK.out; simp [intOf]; omega

              · try dsimp only at e1 e3 e4'
                subst e1
                have HF := Lib.hid (show LaI T len dw sw k (k + 1) from ⟨e3, by have := HK.out; omega, by have := HK.out; omega, .inr ⟨e4', rfl⟩⟩)
                clear e3 e4' LW
                go_wp2_with fail
                go_roundw
                case rel => exact ⟨k, k + 1, _, _, rfl, rfl, rfl, HF, HS4⟩
                case measure => have := HK.out; simp [intOf]; omega


          · rw [hup] at UPS
            clear hup huk hul hu12
            go_wp2_with fail
            refine (UPS.out _ HS.out).mono ?_
            rintro e wx ⟨rfl, rfl⟩
            clear UPS
            have HC := Lib.hid (la_crash HI.out.ok (zs.take klen))
            obtain ⟨dz, hdz⟩ : ∃ dz, dk.crash (zs.take klen) = dz := ⟨_, rfl⟩
            have KC : Hid (∀ wr, DkL w wr d dk → Calls Tryd.prog 16 #[.pointer (some ⟨d, 0, none⟩), .slice ka klen kcap] wr fun e w' => e = .returned (.tuple #[]) ∧ DkL w w' d dz) := Lib.hid (fun wr h => by
              have hw := CRASH.out wr dk h
              rw [hdz] at hw
              exact hw)
            rw [hdz] at HC
            have hk13 : k < 13 := by have := HI.out.u12; rcases HI.out.alt with ⟨_, _, h⟩ | ⟨_, h⟩ <;> omega
            have ML : Hid (∀ wr, DkL w wr d dz → Calls Tryd.prog 17 #[.pointer (some ⟨d, 0, none⟩)] wr fun e w' => ∃ s', e = .returned (.tuple #[.pointer (some ⟨s', 0, none⟩), .int .i64 0]) ∧ DSL w w' d s' dz (laS k [] [])) := Lib.hid (fun wr h => by
              have hl := HC.out.1.last hk13 HC.out.2
              have hw := mountD_L h hl.1
              rw [hl.2] at hw
              exact hw)
            have HU : Hid (u ≤ k + 1 ∧ u ≤ len ∧ k ≤ u) := Lib.hid (by have := HI.out.ul; rcases HI.out.alt with ⟨_, _, h⟩ | ⟨_, h⟩ <;> omega)
            have HK13 := Lib.hid hk13
            clear hdz hk13 HI
            go_wp2_with fail
            refine (KC.out _ HS.out.dkL).mono ?_
            rintro e w3 ⟨rfl, hs⟩
            have HD3 := Lib.hid hs
            clear hs HS KC
            go_wp2_with fail
            refine (ML.out _ HD3.out).mono ?_
            rintro e w4 ⟨s', rfl, hs⟩
            have HS4 := Lib.hid hs
            clear hs HD3 ML
            have sn2 := ptr_nilS ⟨s', 0, none⟩
            have GN : Hid (∀ wr, DSL w wr d s' dz (laS k [] []) → Calls Tryd.prog 18 #[.pointer (some ⟨s', 0, none⟩)] wr fun e w' => e = .returned (.int .i64 ((k + 1 : Nat) : Int)) ∧ wr = w') := Lib.hid (fun wr h => gen_L h)
            have hk12 := HK13.out
            have hu1 := HU.out
            have eg : IntKind.i64.wrap (((k + 1 : Nat) : Int) - 1) = (k : Int) := by rw [show ((k + 1 : Nat) : Int) - 1 = (k : Int) by omega]; exact IntWalk.i64_in _ (by omega)
            have e4 : IntKind.i64.wrap ((k : Int) + 1) = ((k + 1 : Nat) : Int) := by rw [show (k : Int) + 1 = ((k + 1 : Nat) : Int) by omega]; exact IntWalk.i64_in _ (by omega)
            obtain ⟨k1, hk1⟩ : ∃ k1, k + 1 = k1 := ⟨_, rfl⟩
            rw [hk1] at GN eg e4
            have hgt : ¬ ((k1 : Int) < (u : Int)) := by omega
            have hnk : ((k : Int) != (k : Int)) = false := by simp
            clear hk12 hu1 hk1
            by_cases hk0 : k = 0
            · have hr0 : laR k = 0 := by rw [hk0]; rfl
              have RT : Hid (∀ wr, DSL w wr d s' dz (laS k [] []) → Calls Tryd.prog 11 #[.pointer (some ⟨s', 0, none⟩)] wr fun e w' => e = .returned (.int .i64 0) ∧ wr = w') := Lib.hid (fun wr h => by
                have hw := root_L h
                rw [show (laS k [] []).h.root = 0 by show (laR k : Int) = _; rw [hr0]; rfl] at hw
                exact hw)
              have US : Hid (∀ wr, DSL w wr d s' dz (laS k [] []) → Calls Tryd.prog 19 #[.pointer (some ⟨s', 0, none⟩)] wr fun e w' => (∃ a cap, e = .returned (.slice a 0 cap)) ∧ Below wr.heap.size wr w') := Lib.hid (fun wr h => by
                have hw := used_L h
                rw [HC.out.1.len, (la_dec k HK13.out).2.2.2.2.1, if_pos hk0] at hw
                exact hw)
              have hkz : ((k : Int) == 0) = true := by rw [hk0]; rfl
              clear hk0 hr0
              go_wp2_with fail
              refine (GN.out _ HS4.out).mono ?_
              rintro e w9 ⟨rfl, rfl⟩
              go_wp2_with fail
              refine (RT.out _ HS4.out).mono ?_
              rintro e w9 ⟨rfl, rfl⟩
              go_wp2_with fail
              refine (US.out _ HS4.out).mono ?_
              rintro e w9 ⟨⟨ua, ucap, rfl⟩, b9⟩
              have BF := Lib.hid (HS4.out.step b9).below
              clear b9 HS4
              go_wp2_with fail
              go_ret
              exact ⟨rfl, BF.out⟩
            · obtain ⟨j, hj⟩ : ∃ j, k = j + 1 := ⟨k - 1, by omega⟩
              obtain ⟨r, hr⟩ : ∃ r, laR k = r := ⟨_, rfl⟩
              have HTJ := Lib.hid (CUT.out j).1
              have RT : Hid (∀ wr, DSL w wr d s' dz (laS k [] []) → Calls Tryd.prog 11 #[.pointer (some ⟨s', 0, none⟩)] wr fun e w' => e = .returned (.int .i64 (r : Int)) ∧ wr = w') := Lib.hid (fun wr h => by
                have hw := root_L h
                rw [show (laS k [] []).h.root = (r : Int) by show (laR k : Int) = _; rw [hr]] at hw
                exact hw)
              have RD : Hid (∀ wr, DSL w wr d s' dz (laS k [] []) → Calls Tryd.prog 20 #[.pointer (some ⟨s', 0, none⟩), .int .i64 (r : Int)] wr fun e w' => e = .returned (.tuple #[.int .i64 2, .string (T j), .int .i64 0]) ∧ DSL w w' d s' dz (laS k [] [])) := Lib.hid (fun wr h => by
                have hw := readS_L h (r : Int)
                subst hj
                have hq := la_read HC.out.1 HC.out.2 HTJ.out
                rw [hr] at hq
                rw [hq.1, hq.2] at hw
                exact hw)
              have US : Hid (∀ wr, DSL w wr d s' dz (laS k [] []) → Calls Tryd.prog 19 #[.pointer (some ⟨s', 0, none⟩)] wr fun e w' => (∃ a cap, e = .returned (.slice a 1 cap)) ∧ Below wr.heap.size wr w') := Lib.hid (fun wr h => by
                have hw := used_L h
                rw [HC.out.1.len, (la_dec k HK13.out).2.2.2.2.1, if_neg hk0] at hw
                exact hw)
              have LF : Hid (∀ wr, DSL w wr d s' dz (laS k [] []) → Calls Tryd.prog 21 #[.pointer (some ⟨s', 0, none⟩)] wr fun e w' => e = .returned (.int .i64 17) ∧ Below wr.heap.size wr w') := Lib.hid (fun wr h => by
                have hw := left_L h
                rw [HC.out.1.len, la_left k HK13.out (by omega)] at hw
                exact hw)
              have hkz : ((k : Int) == 0) = false := by simp; omega
              have ej : IntKind.i64.wrap ((k : Int) - 1) = (j : Int) := by have := HK13.out; rw [show (k : Int) - 1 = (j : Int) by omega]; exact IntWalk.i64_in _ (by omega)
              have hjn : j < len := by have := HU.out; omega
              have hjl : (j : Int) < (len : Int) := by omega
              obtain ⟨x, sj, hax, CELL⟩ := CELLS.out j hjn
              obtain ⟨mn, hmn⟩ : ∃ mn : Int, (if (240 : Int) < (sj.size : Int) then (240 : Int) else (sj.size : Int)) = mn := ⟨_, rfl⟩
              have hcut := (CUT.out j).2 sj (CELL.out.2) mn hmn
              replace CELL := Lib.hid CELL.out.1
              have hmin0 : (0 : Int) ≤ mn := by rw [← hmn]; split <;> omega
              have hmin1 : mn ≤ (sj.size : Int) := by rw [← hmn]; split <;> omega
              generalize T j = X at *
              subst hax
              clear hk0 hj hr HTJ hjn
              go_wp2_with fail
              refine (GN.out _ HS4.out).mono ?_
              rintro e w9 ⟨rfl, rfl⟩
              go_wp2_with fail
              refine (RT.out _ HS4.out).mono ?_
              rintro e w9 ⟨rfl, rfl⟩
              go_wp2_with fail
              refine (RD.out _ HS4.out).mono ?_
              rintro e w5 ⟨rfl, hs⟩
              have HSD := Lib.hid hs
              clear hs HS4 RD RT GN
              go_upto_region 35 with fail
              have HS9 := Lib.hid (HSD.out.step (Below.refl _ _).drew)
              clear HSD
              refine wp_region_held_drew (S := fun w' => Below w.heap.size w w') (by kernel_rfl) HS9.out.below (fun hS => ?_)
              refine held_take (i := 0) 155 (v := ?vb4q0x1) rfl rfl (by kernel_rfl) (by kernel_rfl) (by kernel_rfl) (fun _ _ _ h => h) hS (by rfl) ?hb4q0x1 ?rb4q0x1
              case hb4q0x1 =>
                intro w9 s9
                clear s9
                go_simp
                try (with_reducible rfl)
              simp only [List.setIfInBounds_toArray, List.set_cons_zero, List.set_cons_succ]
              refine held_take (i := 1) 156 (v := ?vb4q1x2) rfl rfl (by kernel_rfl) (by kernel_rfl) (by kernel_rfl) (fun _ _ _ h => h) hS (by rfl) ?hb4q1x2 ?rb4q1x2
              case hb4q1x2 =>
                intro w9 s9
                clear s9
                go_simp
                try (with_reducible rfl)
              simp only [List.setIfInBounds_toArray, List.set_cons_zero, List.set_cons_succ]
              refine held_take (i := 2) 157 (v := ?vb4q2x3) rfl rfl (by kernel_rfl) (by kernel_rfl) (by kernel_rfl) (fun _ _ _ h => h) hS (by rfl) ?hb4q2x3 ?rb4q2x3
              case hb4q2x3 =>
                intro w9 s9
                clear s9
                go_simp
                try (with_reducible rfl)
              simp only [List.setIfInBounds_toArray, List.set_cons_zero, List.set_cons_succ]
              refine held_take (i := 3) 158 (v := ?vb4q3x4) rfl rfl (by kernel_rfl) (by kernel_rfl) (by kernel_rfl) (fun _ _ _ h => h) hS (by rfl) ?hb4q3x4 ?rb4q3x4
              case hb4q3x4 =>
                intro w9 s9
                clear s9
                go_simp
                try (with_reducible rfl)
              simp only [List.setIfInBounds_toArray, List.set_cons_zero, List.set_cons_succ]
              refine held_take (i := 4) 159 (v := ?vb4q4x5) rfl rfl (by kernel_rfl) (by kernel_rfl) (by kernel_rfl) (fun _ _ _ h => h) hS (by rfl) ?hb4q4x5 ?rb4q4x5
              case hb4q4x5 =>
                intro w9 s9
                clear s9
                go_simp
                try (with_reducible rfl)
              simp only [List.setIfInBounds_toArray, List.set_cons_zero, List.set_cons_succ]
              refine held_take (i := 5) 160 (v := ?vb4q5x6) rfl rfl (by kernel_rfl) (by kernel_rfl) (by kernel_rfl) (fun _ _ _ h => h) hS (by rfl) ?hb4q5x6 ?rb4q5x6
              case hb4q5x6 =>
                intro w9 s9
                clear s9
                go_simp
                try (with_reducible rfl)
              simp only [List.setIfInBounds_toArray, List.set_cons_zero, List.set_cons_succ]
              refine held_take (i := 6) 161 (v := ?vb4q6x7) rfl rfl (by kernel_rfl) (by kernel_rfl) (by kernel_rfl) (fun _ _ _ h => h) hS (by rfl) ?hb4q6x7 ?rb4q6x7
              case hb4q6x7 =>
                intro w9 s9
                clear s9
                go_simp
                try (with_reducible rfl)
              simp only [List.setIfInBounds_toArray, List.set_cons_zero, List.set_cons_succ]
              refine held_take (i := 7) 162 (v := ?vb4q7x8) rfl rfl (by kernel_rfl) (by kernel_rfl) (by kernel_rfl) (fun _ _ _ h => h) hS (by rfl) ?hb4q7x8 ?rb4q7x8
              case hb4q7x8 =>
                intro w9 s9
                clear s9
                go_simp
                try (with_reducible rfl)
              simp only [List.setIfInBounds_toArray, List.set_cons_zero, List.set_cons_succ]
              refine held_take (i := 8) 163 (v := ?vb4q8x9) rfl rfl (by kernel_rfl) (by kernel_rfl) (by kernel_rfl) (fun _ _ _ h => h) hS (by rfl) ?hb4q8x9 ?rb4q8x9
              case hb4q8x9 =>
                intro w9 s9
                clear s9
                go_simp
                try (with_reducible rfl)
              simp only [List.setIfInBounds_toArray, List.set_cons_zero, List.set_cons_succ]
              refine held_take (i := 9) 164 (v := ?vb4q9x10) rfl rfl (by kernel_rfl) (by kernel_rfl) (by kernel_rfl) (fun _ _ _ h => h) hS (by rfl) ?hb4q9x10 ?rb4q9x10
              case hb4q9x10 =>
                intro w9 s9
                clear s9
                go_simp
                try (with_reducible rfl)
              simp only [List.setIfInBounds_toArray, List.set_cons_zero, List.set_cons_succ]
              refine held_take (i := 10) 165 (v := ?vb4q10x11) rfl rfl (by kernel_rfl) (by kernel_rfl) (by kernel_rfl) (fun _ _ _ h => h) hS (by rfl) ?hb4q10x11 ?rb4q10x11
              case hb4q10x11 =>
                intro w9 s9
                clear s9
                go_simp
                try (with_reducible rfl)
              simp only [List.setIfInBounds_toArray, List.set_cons_zero, List.set_cons_succ]
              refine held_take (i := 11) 166 (v := ?vb4q11x12) rfl rfl (by kernel_rfl) (by kernel_rfl) (by kernel_rfl) (fun _ _ _ h => h) hS (by rfl) ?hb4q11x12 ?rb4q11x12
              case hb4q11x12 =>
                intro w9 s9
                clear s9
                go_simp
                try (with_reducible rfl)
              simp only [List.setIfInBounds_toArray, List.set_cons_zero, List.set_cons_succ]
              refine held_take (i := 12) 167 (v := ?vb4q12x13) rfl rfl (by kernel_rfl) (by kernel_rfl) (by kernel_rfl) (fun _ _ _ h => h) hS (by rfl) ?hb4q12x13 ?rb4q12x13
              case hb4q12x13 =>
                intro w9 s9
                clear s9
                go_simp
                try (with_reducible rfl)
              simp only [List.setIfInBounds_toArray, List.set_cons_zero, List.set_cons_succ]
              refine held_take (i := 13) 168 (v := ?vb4q13x14) rfl rfl (by kernel_rfl) (by kernel_rfl) (by kernel_rfl) (fun _ _ _ h => h) hS (by rfl) ?hb4q13x14 ?rb4q13x14
              case hb4q13x14 =>
                intro w9 s9
                clear s9
                go_simp
                try (with_reducible rfl)
              simp only [List.setIfInBounds_toArray, List.set_cons_zero, List.set_cons_succ]
              refine held_take (i := 14) 169 (v := ?vb4q14x15) rfl rfl (by kernel_rfl) (by kernel_rfl) (by kernel_rfl) (fun _ _ _ h => h) hS (by rfl) ?hb4q14x15 ?rb4q14x15
              case hb4q14x15 =>
                intro w9 s9
                clear s9
                go_simp
                try (with_reducible rfl)
              simp only [List.setIfInBounds_toArray, List.set_cons_zero, List.set_cons_succ]
              refine held_take (i := 15) 170 (v := ?vb4q15x16) rfl rfl (by kernel_rfl) (by kernel_rfl) (by kernel_rfl) (fun _ _ _ h => h) hS (by rfl) ?hb4q15x16 ?rb4q15x16
              case hb4q15x16 =>
                intro w9 s9
                have cX : w9.cell? (x.add j) = some (.string sj) := CELL.out w9 s9
                clear s9
                go_simp
                try (with_reducible rfl)
              simp only [List.setIfInBounds_toArray, List.set_cons_zero, List.set_cons_succ]
              refine held_take (i := 16) 171 (v := ?vb4q16x17) rfl rfl (by kernel_rfl) (by kernel_rfl) (by kernel_rfl) (fun _ _ _ h => h) hS (by rfl) ?hb4q16x17 ?rb4q16x17
              case hb4q16x17 =>
                intro w9 s9
                clear s9
                go_simp
                try (with_reducible rfl)
              simp only [List.setIfInBounds_toArray, List.set_cons_zero, List.set_cons_succ]
              refine held_take (i := 17) 172 (v := ?vb4q17x18) rfl rfl (by kernel_rfl) (by kernel_rfl) (by kernel_rfl) (fun _ _ _ h => h) hS (by rfl) ?hb4q17x18 ?rb4q17x18
              case hb4q17x18 =>
                intro w9 s9
                clear s9
                go_simp
                try (with_reducible rfl)
              simp only [List.setIfInBounds_toArray, List.set_cons_zero, List.set_cons_succ]
              refine held_take (i := 18) 173 (v := ?vb4q18x19) rfl rfl (by kernel_rfl) (by kernel_rfl) (by kernel_rfl) (fun _ _ _ h => h) hS (by rfl) ?hb4q18x19 ?rb4q18x19
              case hb4q18x19 =>
                intro w9 s9
                clear s9
                go_simp
                try (with_reducible rfl)
              simp only [List.setIfInBounds_toArray, List.set_cons_zero, List.set_cons_succ]
              refine held_take (i := 19) 174 (v := ?vb4q19x20) rfl rfl (by kernel_rfl) (by kernel_rfl) (by kernel_rfl) (fun _ _ _ h => h) hS (by rfl) ?hb4q19x20 ?rb4q19x20
              case hb4q19x20 =>
                intro w9 s9
                clear s9
                go_simp
                try (with_reducible rfl)
              simp only [List.setIfInBounds_toArray, List.set_cons_zero, List.set_cons_succ]
              refine held_take (i := 20) 175 (v := ?vb4q20x21) rfl rfl (by kernel_rfl) (by kernel_rfl) (by kernel_rfl) (fun _ _ _ h => h) hS (by rfl) ?hb4q20x21 ?rb4q20x21
              case hb4q20x21 =>
                intro w9 s9
                have cX : w9.cell? (x.add j) = some (.string sj) := CELL.out w9 s9
                clear s9
                go_simp
                try (with_reducible rfl)
              simp only [List.setIfInBounds_toArray, List.set_cons_zero, List.set_cons_succ]
              refine held_take (i := 21) 176 (v := ?vb4q21x22) rfl rfl (by kernel_rfl) (by kernel_rfl) (by kernel_rfl) (fun _ _ _ h => h) hS (by rfl) ?hb4q21x22 ?rb4q21x22
              case hb4q21x22 =>
                intro w9 s9
                clear s9
                go_simp
                try (with_reducible rfl)
              simp only [List.setIfInBounds_toArray, List.set_cons_zero, List.set_cons_succ]
              refine held_take (i := 22) 177 (v := ?vb4q22x23) rfl rfl (by kernel_rfl) (by kernel_rfl) (by kernel_rfl) (fun _ _ _ h => h) hS (by rfl) ?hb4q22x23 ?rb4q22x23
              case hb4q22x23 =>
                intro w9 s9
                clear s9
                go_simp
                try (with_reducible rfl)
              simp only [List.setIfInBounds_toArray, List.set_cons_zero, List.set_cons_succ]
              refine held_take (i := 23) 178 (v := ?vb4q23x24) rfl rfl (by kernel_rfl) (by kernel_rfl) (by kernel_rfl) (fun _ _ _ h => h) hS (by rfl) ?hb4q23x24 ?rb4q23x24
              case hb4q23x24 =>
                intro w9 s9
                clear s9
                go_simp
                try (with_reducible rfl)
              simp only [List.setIfInBounds_toArray, List.set_cons_zero, List.set_cons_succ]
              refine held_take (i := 24) 179 (v := ?vb4q24x25) rfl rfl (by kernel_rfl) (by kernel_rfl) (by kernel_rfl) (fun _ _ _ h => h) hS (by rfl) ?hb4q24x25 ?rb4q24x25
              case hb4q24x25 =>
                intro w9 s9
                clear s9
                go_simp
                try (with_reducible rfl)
              simp only [List.setIfInBounds_toArray, List.set_cons_zero, List.set_cons_succ]
              refine held_take (i := 25) 180 (v := ?vb4q25x26) rfl rfl (by kernel_rfl) (by kernel_rfl) (by kernel_rfl) (fun _ _ _ h => h) hS (by rfl) ?hb4q25x26 ?rb4q25x26
              case hb4q25x26 =>
                intro w9 s9
                clear s9
                go_simp
                try (with_reducible rfl)
              simp only [List.setIfInBounds_toArray, List.set_cons_zero, List.set_cons_succ]
              refine held_take (i := 26) 181 (v := ?vb4q26x27) rfl rfl (by kernel_rfl) (by kernel_rfl) (by kernel_rfl) (fun _ _ _ h => h) hS (by rfl) ?hb4q26x27 ?rb4q26x27
              case hb4q26x27 =>
                intro w9 s9
                clear s9
                go_simp
                try (with_reducible rfl)
              simp only [List.setIfInBounds_toArray, List.set_cons_zero, List.set_cons_succ]
              refine held_take (i := 27) 182 (v := ?vb4q27x28) rfl rfl (by kernel_rfl) (by kernel_rfl) (by kernel_rfl) (fun _ _ _ h => h) hS (by rfl) ?hb4q27x28 ?rb4q27x28
              case hb4q27x28 =>
                intro w9 s9
                clear s9
                go_simp
                try (with_reducible rfl)
              simp only [List.setIfInBounds_toArray, List.set_cons_zero, List.set_cons_succ]
              refine held_step (i := 28) rfl (by kernel_rfl) (fun K hK => ?_)
              have HK := Lib.hid hK
              clear hK
              go_simp
              go_wp2_with fail
              refine (US.out _ HS9.out).mono ?_
              rintro e v4 ⟨⟨ua, ucap, rfl⟩, b9⟩
              refine HK.out _ _ ?_ ?_
              · exact chain hS b9
              clear HK K
              try simp only [Act.put, List.setIfInBounds_toArray, List.set_cons_zero, List.set_cons_succ]
              have hS9 := chain hS b9
              clear hS
              have hS := hS9
              clear hS9
              have HSn := Lib.hid (HS9.out.step b9)
              clear HS9 b9
              have HS9 := HSn
              clear HSn
              refine held_take (i := 29) 184 (v := ?vb4q29x29) rfl rfl (by kernel_rfl) (by kernel_rfl) (by kernel_rfl) (fun _ _ _ h => h) hS (by rfl) ?hb4q29x29 ?rb4q29x29
              case hb4q29x29 =>
                intro w9 s9
                clear s9
                go_simp
                try (with_reducible rfl)
              simp only [List.setIfInBounds_toArray, List.set_cons_zero, List.set_cons_succ]
              refine held_take (i := 30) 185 (v := ?vb4q30x30) rfl rfl (by kernel_rfl) (by kernel_rfl) (by kernel_rfl) (fun _ _ _ h => h) hS (by rfl) ?hb4q30x30 ?rb4q30x30
              case hb4q30x30 =>
                intro w9 s9
                clear s9
                go_simp
                try (with_reducible rfl)
              simp only [List.setIfInBounds_toArray, List.set_cons_zero, List.set_cons_succ]
              refine held_take (i := 31) 186 (v := ?vb4q31x31) rfl rfl (by kernel_rfl) (by kernel_rfl) (by kernel_rfl) (fun _ _ _ h => h) hS (by rfl) ?hb4q31x31 ?rb4q31x31
              case hb4q31x31 =>
                intro w9 s9
                clear s9
                go_simp
                try (with_reducible rfl)
              simp only [List.setIfInBounds_toArray, List.set_cons_zero, List.set_cons_succ]
              refine held_take (i := 32) 187 (v := ?vb4q32x32) rfl rfl (by kernel_rfl) (by kernel_rfl) (by kernel_rfl) (fun _ _ _ h => h) hS (by rfl) ?hb4q32x32 ?rb4q32x32
              case hb4q32x32 =>
                intro w9 s9
                clear s9
                go_simp
                try (with_reducible rfl)
              simp only [List.setIfInBounds_toArray, List.set_cons_zero, List.set_cons_succ]
              refine held_take (i := 33) 188 (v := ?vb4q33x33) rfl rfl (by kernel_rfl) (by kernel_rfl) (by kernel_rfl) (fun _ _ _ h => h) hS (by rfl) ?hb4q33x33 ?rb4q33x33
              case hb4q33x33 =>
                intro w9 s9
                clear s9
                go_simp
                try (with_reducible rfl)
              simp only [List.setIfInBounds_toArray, List.set_cons_zero, List.set_cons_succ]
              refine held_step (i := 34) rfl (by kernel_rfl) (fun K hK => ?_)
              have HK := Lib.hid hK
              clear hK
              go_simp
              go_wp2_with fail
              refine (LF.out _ HS9.out).mono ?_
              rintro e v4 ⟨rfl, b9⟩
              refine HK.out _ _ ?_ ?_
              · exact chain hS b9
              clear HK K
              try simp only [Act.put, List.setIfInBounds_toArray, List.set_cons_zero, List.set_cons_succ]
              have hS9 := chain hS b9
              clear hS
              have hS := hS9
              clear hS9
              have HSn := Lib.hid (HS9.out.step b9)
              clear HS9 b9
              have HS9 := HSn
              clear HSn
              refine held_take (i := 35) 190 (v := ?vb4q35x34) rfl rfl (by kernel_rfl) (by kernel_rfl) (by kernel_rfl) (fun _ _ _ h => h) hS (by rfl) ?hb4q35x34 ?rb4q35x34
              case hb4q35x34 =>
                intro w9 s9
                clear s9
                go_simp
                try (with_reducible rfl)
              simp only [List.setIfInBounds_toArray, List.set_cons_zero, List.set_cons_succ]
              refine held_take (i := 36) 191 (v := ?vb4q36x35) rfl rfl (by kernel_rfl) (by kernel_rfl) (by kernel_rfl) (fun _ _ _ h => h) hS (by rfl) ?hb4q36x35 ?rb4q36x35
              case hb4q36x35 =>
                intro w9 s9
                clear s9
                go_simp
                try (with_reducible rfl)
              simp only [List.setIfInBounds_toArray, List.set_cons_zero, List.set_cons_succ]
              refine held_take (i := 37) 6 (v := ?vb4q37x36) rfl rfl (by kernel_rfl) (by kernel_rfl) (by kernel_rfl) (fun _ _ _ h => h) hS (by rfl) ?hb4q37x36 ?rb4q37x36
              case hb4q37x36 =>
                intro w9 s9
                clear s9
                go_simp
                try (with_reducible rfl)
              simp only [List.setIfInBounds_toArray, List.set_cons_zero, List.set_cons_succ]
              refine wpAnyH_done (by kernel_rfl) ?_ _
              clear HS9
              have BF := Lib.hid hS
              clear hS
              go_wp2_with fail
              go_ret
              exact ⟨rfl, BF.out⟩

        · have hu12i : ¬ (u : Int) < 12 := by omega
          clear hul hu12
          have HC := Lib.hid (la_crash HI.out.ok (zs.take klen))
          obtain ⟨dz, hdz⟩ : ∃ dz, dk.crash (zs.take klen) = dz := ⟨_, rfl⟩
          have KC : Hid (∀ wr, DkL w wr d dk → Calls Tryd.prog 16 #[.pointer (some ⟨d, 0, none⟩), .slice ka klen kcap] wr fun e w' => e = .returned (.tuple #[]) ∧ DkL w w' d dz) := Lib.hid (fun wr h => by
            have hw := CRASH.out wr dk h
            rw [hdz] at hw
            exact hw)
          rw [hdz] at HC
          have hk13 : k < 13 := by have := HI.out.u12; rcases HI.out.alt with ⟨_, _, h⟩ | ⟨_, h⟩ <;> omega
          have ML : Hid (∀ wr, DkL w wr d dz → Calls Tryd.prog 17 #[.pointer (some ⟨d, 0, none⟩)] wr fun e w' => ∃ s', e = .returned (.tuple #[.pointer (some ⟨s', 0, none⟩), .int .i64 0]) ∧ DSL w w' d s' dz (laS k [] [])) := Lib.hid (fun wr h => by
            have hl := HC.out.1.last hk13 HC.out.2
            have hw := mountD_L h hl.1
            rw [hl.2] at hw
            exact hw)
          have HU : Hid (u ≤ k + 1 ∧ u ≤ len ∧ k ≤ u) := Lib.hid (by have := HI.out.ul; rcases HI.out.alt with ⟨_, _, h⟩ | ⟨_, h⟩ <;> omega)
          have HK13 := Lib.hid hk13
          clear hdz hk13 HI
          go_wp2_with fail
          refine (KC.out _ HS.out.dkL).mono ?_
          rintro e w3 ⟨rfl, hs⟩
          have HD3 := Lib.hid hs
          clear hs HS KC
          go_wp2_with fail
          refine (ML.out _ HD3.out).mono ?_
          rintro e w4 ⟨s', rfl, hs⟩
          have HS4 := Lib.hid hs
          clear hs HD3 ML
          have sn2 := ptr_nilS ⟨s', 0, none⟩
          have GN : Hid (∀ wr, DSL w wr d s' dz (laS k [] []) → Calls Tryd.prog 18 #[.pointer (some ⟨s', 0, none⟩)] wr fun e w' => e = .returned (.int .i64 ((k + 1 : Nat) : Int)) ∧ wr = w') := Lib.hid (fun wr h => gen_L h)
          have hk12 := HK13.out
          have hu1 := HU.out
          have eg : IntKind.i64.wrap (((k + 1 : Nat) : Int) - 1) = (k : Int) := by rw [show ((k + 1 : Nat) : Int) - 1 = (k : Int) by omega]; exact IntWalk.i64_in _ (by omega)
          have e4 : IntKind.i64.wrap ((k : Int) + 1) = ((k + 1 : Nat) : Int) := by rw [show (k : Int) + 1 = ((k + 1 : Nat) : Int) by omega]; exact IntWalk.i64_in _ (by omega)
          obtain ⟨k1, hk1⟩ : ∃ k1, k + 1 = k1 := ⟨_, rfl⟩
          rw [hk1] at GN eg e4
          have hgt : ¬ ((k1 : Int) < (u : Int)) := by omega
          have hnk : ((k : Int) != (k : Int)) = false := by simp
          clear hk12 hu1 hk1
          by_cases hk0 : k = 0
          · have hr0 : laR k = 0 := by rw [hk0]; rfl
            have RT : Hid (∀ wr, DSL w wr d s' dz (laS k [] []) → Calls Tryd.prog 11 #[.pointer (some ⟨s', 0, none⟩)] wr fun e w' => e = .returned (.int .i64 0) ∧ wr = w') := Lib.hid (fun wr h => by
              have hw := root_L h
              rw [show (laS k [] []).h.root = 0 by show (laR k : Int) = _; rw [hr0]; rfl] at hw
              exact hw)
            have US : Hid (∀ wr, DSL w wr d s' dz (laS k [] []) → Calls Tryd.prog 19 #[.pointer (some ⟨s', 0, none⟩)] wr fun e w' => (∃ a cap, e = .returned (.slice a 0 cap)) ∧ Below wr.heap.size wr w') := Lib.hid (fun wr h => by
              have hw := used_L h
              rw [HC.out.1.len, (la_dec k HK13.out).2.2.2.2.1, if_pos hk0] at hw
              exact hw)
            have hkz : ((k : Int) == 0) = true := by rw [hk0]; rfl
            clear hk0 hr0
            go_wp2_with fail
            refine (GN.out _ HS4.out).mono ?_
            rintro e w9 ⟨rfl, rfl⟩
            go_wp2_with fail
            refine (RT.out _ HS4.out).mono ?_
            rintro e w9 ⟨rfl, rfl⟩
            go_wp2_with fail
            refine (US.out _ HS4.out).mono ?_
            rintro e w9 ⟨⟨ua, ucap, rfl⟩, b9⟩
            have BF := Lib.hid (HS4.out.step b9).below
            clear b9 HS4
            go_wp2_with fail
            go_ret
            exact ⟨rfl, BF.out⟩
          · obtain ⟨j, hj⟩ : ∃ j, k = j + 1 := ⟨k - 1, by omega⟩
            obtain ⟨r, hr⟩ : ∃ r, laR k = r := ⟨_, rfl⟩
            have HTJ := Lib.hid (CUT.out j).1
            have RT : Hid (∀ wr, DSL w wr d s' dz (laS k [] []) → Calls Tryd.prog 11 #[.pointer (some ⟨s', 0, none⟩)] wr fun e w' => e = .returned (.int .i64 (r : Int)) ∧ wr = w') := Lib.hid (fun wr h => by
              have hw := root_L h
              rw [show (laS k [] []).h.root = (r : Int) by show (laR k : Int) = _; rw [hr]] at hw
              exact hw)
            have RD : Hid (∀ wr, DSL w wr d s' dz (laS k [] []) → Calls Tryd.prog 20 #[.pointer (some ⟨s', 0, none⟩), .int .i64 (r : Int)] wr fun e w' => e = .returned (.tuple #[.int .i64 2, .string (T j), .int .i64 0]) ∧ DSL w w' d s' dz (laS k [] [])) := Lib.hid (fun wr h => by
              have hw := readS_L h (r : Int)
              subst hj
              have hq := la_read HC.out.1 HC.out.2 HTJ.out
              rw [hr] at hq
              rw [hq.1, hq.2] at hw
              exact hw)
            have US : Hid (∀ wr, DSL w wr d s' dz (laS k [] []) → Calls Tryd.prog 19 #[.pointer (some ⟨s', 0, none⟩)] wr fun e w' => (∃ a cap, e = .returned (.slice a 1 cap)) ∧ Below wr.heap.size wr w') := Lib.hid (fun wr h => by
              have hw := used_L h
              rw [HC.out.1.len, (la_dec k HK13.out).2.2.2.2.1, if_neg hk0] at hw
              exact hw)
            have LF : Hid (∀ wr, DSL w wr d s' dz (laS k [] []) → Calls Tryd.prog 21 #[.pointer (some ⟨s', 0, none⟩)] wr fun e w' => e = .returned (.int .i64 17) ∧ Below wr.heap.size wr w') := Lib.hid (fun wr h => by
              have hw := left_L h
              rw [HC.out.1.len, la_left k HK13.out (by omega)] at hw
              exact hw)
            have hkz : ((k : Int) == 0) = false := by simp; omega
            have ej : IntKind.i64.wrap ((k : Int) - 1) = (j : Int) := by have := HK13.out; rw [show (k : Int) - 1 = (j : Int) by omega]; exact IntWalk.i64_in _ (by omega)
            have hjn : j < len := by have := HU.out; omega
            have hjl : (j : Int) < (len : Int) := by omega
            obtain ⟨x, sj, hax, CELL⟩ := CELLS.out j hjn
            obtain ⟨mn, hmn⟩ : ∃ mn : Int, (if (240 : Int) < (sj.size : Int) then (240 : Int) else (sj.size : Int)) = mn := ⟨_, rfl⟩
            have hcut := (CUT.out j).2 sj (CELL.out.2) mn hmn
            replace CELL := Lib.hid CELL.out.1
            have hmin0 : (0 : Int) ≤ mn := by rw [← hmn]; split <;> omega
            have hmin1 : mn ≤ (sj.size : Int) := by rw [← hmn]; split <;> omega
            generalize T j = X at *
            subst hax
            clear hk0 hj hr HTJ hjn
            go_wp2_with fail
            refine (GN.out _ HS4.out).mono ?_
            rintro e w9 ⟨rfl, rfl⟩
            go_wp2_with fail
            refine (RT.out _ HS4.out).mono ?_
            rintro e w9 ⟨rfl, rfl⟩
            go_wp2_with fail
            refine (RD.out _ HS4.out).mono ?_
            rintro e w5 ⟨rfl, hs⟩
            have HSD := Lib.hid hs
            clear hs HS4 RD RT GN
            go_upto_region 35 with fail
            have HS9 := Lib.hid (HSD.out.step (Below.refl _ _).drew)
            clear HSD
            refine wp_region_held_drew (S := fun w' => Below w.heap.size w w') (by kernel_rfl) HS9.out.below (fun hS => ?_)
            refine held_take (i := 0) 155 (v := ?vb6q0x1) rfl rfl (by kernel_rfl) (by kernel_rfl) (by kernel_rfl) (fun _ _ _ h => h) hS (by rfl) ?hb6q0x1 ?rb6q0x1
            case hb6q0x1 =>
              intro w9 s9
              clear s9
              go_simp
              try (with_reducible rfl)
            simp only [List.setIfInBounds_toArray, List.set_cons_zero, List.set_cons_succ]
            refine held_take (i := 1) 156 (v := ?vb6q1x2) rfl rfl (by kernel_rfl) (by kernel_rfl) (by kernel_rfl) (fun _ _ _ h => h) hS (by rfl) ?hb6q1x2 ?rb6q1x2
            case hb6q1x2 =>
              intro w9 s9
              clear s9
              go_simp
              try (with_reducible rfl)
            simp only [List.setIfInBounds_toArray, List.set_cons_zero, List.set_cons_succ]
            refine held_take (i := 2) 157 (v := ?vb6q2x3) rfl rfl (by kernel_rfl) (by kernel_rfl) (by kernel_rfl) (fun _ _ _ h => h) hS (by rfl) ?hb6q2x3 ?rb6q2x3
            case hb6q2x3 =>
              intro w9 s9
              clear s9
              go_simp
              try (with_reducible rfl)
            simp only [List.setIfInBounds_toArray, List.set_cons_zero, List.set_cons_succ]
            refine held_take (i := 3) 158 (v := ?vb6q3x4) rfl rfl (by kernel_rfl) (by kernel_rfl) (by kernel_rfl) (fun _ _ _ h => h) hS (by rfl) ?hb6q3x4 ?rb6q3x4
            case hb6q3x4 =>
              intro w9 s9
              clear s9
              go_simp
              try (with_reducible rfl)
            simp only [List.setIfInBounds_toArray, List.set_cons_zero, List.set_cons_succ]
            refine held_take (i := 4) 159 (v := ?vb6q4x5) rfl rfl (by kernel_rfl) (by kernel_rfl) (by kernel_rfl) (fun _ _ _ h => h) hS (by rfl) ?hb6q4x5 ?rb6q4x5
            case hb6q4x5 =>
              intro w9 s9
              clear s9
              go_simp
              try (with_reducible rfl)
            simp only [List.setIfInBounds_toArray, List.set_cons_zero, List.set_cons_succ]
            refine held_take (i := 5) 160 (v := ?vb6q5x6) rfl rfl (by kernel_rfl) (by kernel_rfl) (by kernel_rfl) (fun _ _ _ h => h) hS (by rfl) ?hb6q5x6 ?rb6q5x6
            case hb6q5x6 =>
              intro w9 s9
              clear s9
              go_simp
              try (with_reducible rfl)
            simp only [List.setIfInBounds_toArray, List.set_cons_zero, List.set_cons_succ]
            refine held_take (i := 6) 161 (v := ?vb6q6x7) rfl rfl (by kernel_rfl) (by kernel_rfl) (by kernel_rfl) (fun _ _ _ h => h) hS (by rfl) ?hb6q6x7 ?rb6q6x7
            case hb6q6x7 =>
              intro w9 s9
              clear s9
              go_simp
              try (with_reducible rfl)
            simp only [List.setIfInBounds_toArray, List.set_cons_zero, List.set_cons_succ]
            refine held_take (i := 7) 162 (v := ?vb6q7x8) rfl rfl (by kernel_rfl) (by kernel_rfl) (by kernel_rfl) (fun _ _ _ h => h) hS (by rfl) ?hb6q7x8 ?rb6q7x8
            case hb6q7x8 =>
              intro w9 s9
              clear s9
              go_simp
              try (with_reducible rfl)
            simp only [List.setIfInBounds_toArray, List.set_cons_zero, List.set_cons_succ]
            refine held_take (i := 8) 163 (v := ?vb6q8x9) rfl rfl (by kernel_rfl) (by kernel_rfl) (by kernel_rfl) (fun _ _ _ h => h) hS (by rfl) ?hb6q8x9 ?rb6q8x9
            case hb6q8x9 =>
              intro w9 s9
              clear s9
              go_simp
              try (with_reducible rfl)
            simp only [List.setIfInBounds_toArray, List.set_cons_zero, List.set_cons_succ]
            refine held_take (i := 9) 164 (v := ?vb6q9x10) rfl rfl (by kernel_rfl) (by kernel_rfl) (by kernel_rfl) (fun _ _ _ h => h) hS (by rfl) ?hb6q9x10 ?rb6q9x10
            case hb6q9x10 =>
              intro w9 s9
              clear s9
              go_simp
              try (with_reducible rfl)
            simp only [List.setIfInBounds_toArray, List.set_cons_zero, List.set_cons_succ]
            refine held_take (i := 10) 165 (v := ?vb6q10x11) rfl rfl (by kernel_rfl) (by kernel_rfl) (by kernel_rfl) (fun _ _ _ h => h) hS (by rfl) ?hb6q10x11 ?rb6q10x11
            case hb6q10x11 =>
              intro w9 s9
              clear s9
              go_simp
              try (with_reducible rfl)
            simp only [List.setIfInBounds_toArray, List.set_cons_zero, List.set_cons_succ]
            refine held_take (i := 11) 166 (v := ?vb6q11x12) rfl rfl (by kernel_rfl) (by kernel_rfl) (by kernel_rfl) (fun _ _ _ h => h) hS (by rfl) ?hb6q11x12 ?rb6q11x12
            case hb6q11x12 =>
              intro w9 s9
              clear s9
              go_simp
              try (with_reducible rfl)
            simp only [List.setIfInBounds_toArray, List.set_cons_zero, List.set_cons_succ]
            refine held_take (i := 12) 167 (v := ?vb6q12x13) rfl rfl (by kernel_rfl) (by kernel_rfl) (by kernel_rfl) (fun _ _ _ h => h) hS (by rfl) ?hb6q12x13 ?rb6q12x13
            case hb6q12x13 =>
              intro w9 s9
              clear s9
              go_simp
              try (with_reducible rfl)
            simp only [List.setIfInBounds_toArray, List.set_cons_zero, List.set_cons_succ]
            refine held_take (i := 13) 168 (v := ?vb6q13x14) rfl rfl (by kernel_rfl) (by kernel_rfl) (by kernel_rfl) (fun _ _ _ h => h) hS (by rfl) ?hb6q13x14 ?rb6q13x14
            case hb6q13x14 =>
              intro w9 s9
              clear s9
              go_simp
              try (with_reducible rfl)
            simp only [List.setIfInBounds_toArray, List.set_cons_zero, List.set_cons_succ]
            refine held_take (i := 14) 169 (v := ?vb6q14x15) rfl rfl (by kernel_rfl) (by kernel_rfl) (by kernel_rfl) (fun _ _ _ h => h) hS (by rfl) ?hb6q14x15 ?rb6q14x15
            case hb6q14x15 =>
              intro w9 s9
              clear s9
              go_simp
              try (with_reducible rfl)
            simp only [List.setIfInBounds_toArray, List.set_cons_zero, List.set_cons_succ]
            refine held_take (i := 15) 170 (v := ?vb6q15x16) rfl rfl (by kernel_rfl) (by kernel_rfl) (by kernel_rfl) (fun _ _ _ h => h) hS (by rfl) ?hb6q15x16 ?rb6q15x16
            case hb6q15x16 =>
              intro w9 s9
              have cX : w9.cell? (x.add j) = some (.string sj) := CELL.out w9 s9
              clear s9
              go_simp
              try (with_reducible rfl)
            simp only [List.setIfInBounds_toArray, List.set_cons_zero, List.set_cons_succ]
            refine held_take (i := 16) 171 (v := ?vb6q16x17) rfl rfl (by kernel_rfl) (by kernel_rfl) (by kernel_rfl) (fun _ _ _ h => h) hS (by rfl) ?hb6q16x17 ?rb6q16x17
            case hb6q16x17 =>
              intro w9 s9
              clear s9
              go_simp
              try (with_reducible rfl)
            simp only [List.setIfInBounds_toArray, List.set_cons_zero, List.set_cons_succ]
            refine held_take (i := 17) 172 (v := ?vb6q17x18) rfl rfl (by kernel_rfl) (by kernel_rfl) (by kernel_rfl) (fun _ _ _ h => h) hS (by rfl) ?hb6q17x18 ?rb6q17x18
            case hb6q17x18 =>
              intro w9 s9
              clear s9
              go_simp
              try (with_reducible rfl)
            simp only [List.setIfInBounds_toArray, List.set_cons_zero, List.set_cons_succ]
            refine held_take (i := 18) 173 (v := ?vb6q18x19) rfl rfl (by kernel_rfl) (by kernel_rfl) (by kernel_rfl) (fun _ _ _ h => h) hS (by rfl) ?hb6q18x19 ?rb6q18x19
            case hb6q18x19 =>
              intro w9 s9
              clear s9
              go_simp
              try (with_reducible rfl)
            simp only [List.setIfInBounds_toArray, List.set_cons_zero, List.set_cons_succ]
            refine held_take (i := 19) 174 (v := ?vb6q19x20) rfl rfl (by kernel_rfl) (by kernel_rfl) (by kernel_rfl) (fun _ _ _ h => h) hS (by rfl) ?hb6q19x20 ?rb6q19x20
            case hb6q19x20 =>
              intro w9 s9
              clear s9
              go_simp
              try (with_reducible rfl)
            simp only [List.setIfInBounds_toArray, List.set_cons_zero, List.set_cons_succ]
            refine held_take (i := 20) 175 (v := ?vb6q20x21) rfl rfl (by kernel_rfl) (by kernel_rfl) (by kernel_rfl) (fun _ _ _ h => h) hS (by rfl) ?hb6q20x21 ?rb6q20x21
            case hb6q20x21 =>
              intro w9 s9
              have cX : w9.cell? (x.add j) = some (.string sj) := CELL.out w9 s9
              clear s9
              go_simp
              try (with_reducible rfl)
            simp only [List.setIfInBounds_toArray, List.set_cons_zero, List.set_cons_succ]
            refine held_take (i := 21) 176 (v := ?vb6q21x22) rfl rfl (by kernel_rfl) (by kernel_rfl) (by kernel_rfl) (fun _ _ _ h => h) hS (by rfl) ?hb6q21x22 ?rb6q21x22
            case hb6q21x22 =>
              intro w9 s9
              clear s9
              go_simp
              try (with_reducible rfl)
            simp only [List.setIfInBounds_toArray, List.set_cons_zero, List.set_cons_succ]
            refine held_take (i := 22) 177 (v := ?vb6q22x23) rfl rfl (by kernel_rfl) (by kernel_rfl) (by kernel_rfl) (fun _ _ _ h => h) hS (by rfl) ?hb6q22x23 ?rb6q22x23
            case hb6q22x23 =>
              intro w9 s9
              clear s9
              go_simp
              try (with_reducible rfl)
            simp only [List.setIfInBounds_toArray, List.set_cons_zero, List.set_cons_succ]
            refine held_take (i := 23) 178 (v := ?vb6q23x24) rfl rfl (by kernel_rfl) (by kernel_rfl) (by kernel_rfl) (fun _ _ _ h => h) hS (by rfl) ?hb6q23x24 ?rb6q23x24
            case hb6q23x24 =>
              intro w9 s9
              clear s9
              go_simp
              try (with_reducible rfl)
            simp only [List.setIfInBounds_toArray, List.set_cons_zero, List.set_cons_succ]
            refine held_take (i := 24) 179 (v := ?vb6q24x25) rfl rfl (by kernel_rfl) (by kernel_rfl) (by kernel_rfl) (fun _ _ _ h => h) hS (by rfl) ?hb6q24x25 ?rb6q24x25
            case hb6q24x25 =>
              intro w9 s9
              clear s9
              go_simp
              try (with_reducible rfl)
            simp only [List.setIfInBounds_toArray, List.set_cons_zero, List.set_cons_succ]
            refine held_take (i := 25) 180 (v := ?vb6q25x26) rfl rfl (by kernel_rfl) (by kernel_rfl) (by kernel_rfl) (fun _ _ _ h => h) hS (by rfl) ?hb6q25x26 ?rb6q25x26
            case hb6q25x26 =>
              intro w9 s9
              clear s9
              go_simp
              try (with_reducible rfl)
            simp only [List.setIfInBounds_toArray, List.set_cons_zero, List.set_cons_succ]
            refine held_take (i := 26) 181 (v := ?vb6q26x27) rfl rfl (by kernel_rfl) (by kernel_rfl) (by kernel_rfl) (fun _ _ _ h => h) hS (by rfl) ?hb6q26x27 ?rb6q26x27
            case hb6q26x27 =>
              intro w9 s9
              clear s9
              go_simp
              try (with_reducible rfl)
            simp only [List.setIfInBounds_toArray, List.set_cons_zero, List.set_cons_succ]
            refine held_take (i := 27) 182 (v := ?vb6q27x28) rfl rfl (by kernel_rfl) (by kernel_rfl) (by kernel_rfl) (fun _ _ _ h => h) hS (by rfl) ?hb6q27x28 ?rb6q27x28
            case hb6q27x28 =>
              intro w9 s9
              clear s9
              go_simp
              try (with_reducible rfl)
            simp only [List.setIfInBounds_toArray, List.set_cons_zero, List.set_cons_succ]
            refine held_step (i := 28) rfl (by kernel_rfl) (fun K hK => ?_)
            have HK := Lib.hid hK
            clear hK
            go_simp
            go_wp2_with fail
            refine (US.out _ HS9.out).mono ?_
            rintro e v4 ⟨⟨ua, ucap, rfl⟩, b9⟩
            refine HK.out _ _ ?_ ?_
            · exact chain hS b9
            clear HK K
            try simp only [Act.put, List.setIfInBounds_toArray, List.set_cons_zero, List.set_cons_succ]
            have hS9 := chain hS b9
            clear hS
            have hS := hS9
            clear hS9
            have HSn := Lib.hid (HS9.out.step b9)
            clear HS9 b9
            have HS9 := HSn
            clear HSn
            refine held_take (i := 29) 184 (v := ?vb6q29x29) rfl rfl (by kernel_rfl) (by kernel_rfl) (by kernel_rfl) (fun _ _ _ h => h) hS (by rfl) ?hb6q29x29 ?rb6q29x29
            case hb6q29x29 =>
              intro w9 s9
              clear s9
              go_simp
              try (with_reducible rfl)
            simp only [List.setIfInBounds_toArray, List.set_cons_zero, List.set_cons_succ]
            refine held_take (i := 30) 185 (v := ?vb6q30x30) rfl rfl (by kernel_rfl) (by kernel_rfl) (by kernel_rfl) (fun _ _ _ h => h) hS (by rfl) ?hb6q30x30 ?rb6q30x30
            case hb6q30x30 =>
              intro w9 s9
              clear s9
              go_simp
              try (with_reducible rfl)
            simp only [List.setIfInBounds_toArray, List.set_cons_zero, List.set_cons_succ]
            refine held_take (i := 31) 186 (v := ?vb6q31x31) rfl rfl (by kernel_rfl) (by kernel_rfl) (by kernel_rfl) (fun _ _ _ h => h) hS (by rfl) ?hb6q31x31 ?rb6q31x31
            case hb6q31x31 =>
              intro w9 s9
              clear s9
              go_simp
              try (with_reducible rfl)
            simp only [List.setIfInBounds_toArray, List.set_cons_zero, List.set_cons_succ]
            refine held_take (i := 32) 187 (v := ?vb6q32x32) rfl rfl (by kernel_rfl) (by kernel_rfl) (by kernel_rfl) (fun _ _ _ h => h) hS (by rfl) ?hb6q32x32 ?rb6q32x32
            case hb6q32x32 =>
              intro w9 s9
              clear s9
              go_simp
              try (with_reducible rfl)
            simp only [List.setIfInBounds_toArray, List.set_cons_zero, List.set_cons_succ]
            refine held_take (i := 33) 188 (v := ?vb6q33x33) rfl rfl (by kernel_rfl) (by kernel_rfl) (by kernel_rfl) (fun _ _ _ h => h) hS (by rfl) ?hb6q33x33 ?rb6q33x33
            case hb6q33x33 =>
              intro w9 s9
              clear s9
              go_simp
              try (with_reducible rfl)
            simp only [List.setIfInBounds_toArray, List.set_cons_zero, List.set_cons_succ]
            refine held_step (i := 34) rfl (by kernel_rfl) (fun K hK => ?_)
            have HK := Lib.hid hK
            clear hK
            go_simp
            go_wp2_with fail
            refine (LF.out _ HS9.out).mono ?_
            rintro e v4 ⟨rfl, b9⟩
            refine HK.out _ _ ?_ ?_
            · exact chain hS b9
            clear HK K
            try simp only [Act.put, List.setIfInBounds_toArray, List.set_cons_zero, List.set_cons_succ]
            have hS9 := chain hS b9
            clear hS
            have hS := hS9
            clear hS9
            have HSn := Lib.hid (HS9.out.step b9)
            clear HS9 b9
            have HS9 := HSn
            clear HSn
            refine held_take (i := 35) 190 (v := ?vb6q35x34) rfl rfl (by kernel_rfl) (by kernel_rfl) (by kernel_rfl) (fun _ _ _ h => h) hS (by rfl) ?hb6q35x34 ?rb6q35x34
            case hb6q35x34 =>
              intro w9 s9
              clear s9
              go_simp
              try (with_reducible rfl)
            simp only [List.setIfInBounds_toArray, List.set_cons_zero, List.set_cons_succ]
            refine held_take (i := 36) 191 (v := ?vb6q36x35) rfl rfl (by kernel_rfl) (by kernel_rfl) (by kernel_rfl) (fun _ _ _ h => h) hS (by rfl) ?hb6q36x35 ?rb6q36x35
            case hb6q36x35 =>
              intro w9 s9
              clear s9
              go_simp
              try (with_reducible rfl)
            simp only [List.setIfInBounds_toArray, List.set_cons_zero, List.set_cons_succ]
            refine held_take (i := 37) 6 (v := ?vb6q37x36) rfl rfl (by kernel_rfl) (by kernel_rfl) (by kernel_rfl) (fun _ _ _ h => h) hS (by rfl) ?hb6q37x36 ?rb6q37x36
            case hb6q37x36 =>
              intro w9 s9
              clear s9
              go_simp
              try (with_reducible rfl)
            simp only [List.setIfInBounds_toArray, List.set_cons_zero, List.set_cons_succ]
            refine wpAnyH_done (by kernel_rfl) ?_ _
            clear HS9
            have BF := Lib.hid hS
            clear hS
            go_wp2_with fail
            go_ret
            exact ⟨rfl, BF.out⟩

      · have huli : ¬ (u : Int) < (len : Int) := by omega
        clear hul
        have HC := Lib.hid (la_crash HI.out.ok (zs.take klen))
        obtain ⟨dz, hdz⟩ : ∃ dz, dk.crash (zs.take klen) = dz := ⟨_, rfl⟩
        have KC : Hid (∀ wr, DkL w wr d dk → Calls Tryd.prog 16 #[.pointer (some ⟨d, 0, none⟩), .slice ka klen kcap] wr fun e w' => e = .returned (.tuple #[]) ∧ DkL w w' d dz) := Lib.hid (fun wr h => by
          have hw := CRASH.out wr dk h
          rw [hdz] at hw
          exact hw)
        rw [hdz] at HC
        have hk13 : k < 13 := by have := HI.out.u12; rcases HI.out.alt with ⟨_, _, h⟩ | ⟨_, h⟩ <;> omega
        have ML : Hid (∀ wr, DkL w wr d dz → Calls Tryd.prog 17 #[.pointer (some ⟨d, 0, none⟩)] wr fun e w' => ∃ s', e = .returned (.tuple #[.pointer (some ⟨s', 0, none⟩), .int .i64 0]) ∧ DSL w w' d s' dz (laS k [] [])) := Lib.hid (fun wr h => by
          have hl := HC.out.1.last hk13 HC.out.2
          have hw := mountD_L h hl.1
          rw [hl.2] at hw
          exact hw)
        have HU : Hid (u ≤ k + 1 ∧ u ≤ len ∧ k ≤ u) := Lib.hid (by have := HI.out.ul; rcases HI.out.alt with ⟨_, _, h⟩ | ⟨_, h⟩ <;> omega)
        have HK13 := Lib.hid hk13
        clear hdz hk13 HI
        go_wp2_with fail
        refine (KC.out _ HS.out.dkL).mono ?_
        rintro e w3 ⟨rfl, hs⟩
        have HD3 := Lib.hid hs
        clear hs HS KC
        go_wp2_with fail
        refine (ML.out _ HD3.out).mono ?_
        rintro e w4 ⟨s', rfl, hs⟩
        have HS4 := Lib.hid hs
        clear hs HD3 ML
        have sn2 := ptr_nilS ⟨s', 0, none⟩
        have GN : Hid (∀ wr, DSL w wr d s' dz (laS k [] []) → Calls Tryd.prog 18 #[.pointer (some ⟨s', 0, none⟩)] wr fun e w' => e = .returned (.int .i64 ((k + 1 : Nat) : Int)) ∧ wr = w') := Lib.hid (fun wr h => gen_L h)
        have hk12 := HK13.out
        have hu1 := HU.out
        have eg : IntKind.i64.wrap (((k + 1 : Nat) : Int) - 1) = (k : Int) := by rw [show ((k + 1 : Nat) : Int) - 1 = (k : Int) by omega]; exact IntWalk.i64_in _ (by omega)
        have e4 : IntKind.i64.wrap ((k : Int) + 1) = ((k + 1 : Nat) : Int) := by rw [show (k : Int) + 1 = ((k + 1 : Nat) : Int) by omega]; exact IntWalk.i64_in _ (by omega)
        obtain ⟨k1, hk1⟩ : ∃ k1, k + 1 = k1 := ⟨_, rfl⟩
        rw [hk1] at GN eg e4
        have hgt : ¬ ((k1 : Int) < (u : Int)) := by omega
        have hnk : ((k : Int) != (k : Int)) = false := by simp
        clear hk12 hu1 hk1
        by_cases hk0 : k = 0
        · have hr0 : laR k = 0 := by rw [hk0]; rfl
          have RT : Hid (∀ wr, DSL w wr d s' dz (laS k [] []) → Calls Tryd.prog 11 #[.pointer (some ⟨s', 0, none⟩)] wr fun e w' => e = .returned (.int .i64 0) ∧ wr = w') := Lib.hid (fun wr h => by
            have hw := root_L h
            rw [show (laS k [] []).h.root = 0 by show (laR k : Int) = _; rw [hr0]; rfl] at hw
            exact hw)
          have US : Hid (∀ wr, DSL w wr d s' dz (laS k [] []) → Calls Tryd.prog 19 #[.pointer (some ⟨s', 0, none⟩)] wr fun e w' => (∃ a cap, e = .returned (.slice a 0 cap)) ∧ Below wr.heap.size wr w') := Lib.hid (fun wr h => by
            have hw := used_L h
            rw [HC.out.1.len, (la_dec k HK13.out).2.2.2.2.1, if_pos hk0] at hw
            exact hw)
          have hkz : ((k : Int) == 0) = true := by rw [hk0]; rfl
          clear hk0 hr0
          go_wp2_with fail
          refine (GN.out _ HS4.out).mono ?_
          rintro e w9 ⟨rfl, rfl⟩
          go_wp2_with fail
          refine (RT.out _ HS4.out).mono ?_
          rintro e w9 ⟨rfl, rfl⟩
          go_wp2_with fail
          refine (US.out _ HS4.out).mono ?_
          rintro e w9 ⟨⟨ua, ucap, rfl⟩, b9⟩
          have BF := Lib.hid (HS4.out.step b9).below
          clear b9 HS4
          go_wp2_with fail
          go_ret
          exact ⟨rfl, BF.out⟩
        · obtain ⟨j, hj⟩ : ∃ j, k = j + 1 := ⟨k - 1, by omega⟩
          obtain ⟨r, hr⟩ : ∃ r, laR k = r := ⟨_, rfl⟩
          have HTJ := Lib.hid (CUT.out j).1
          have RT : Hid (∀ wr, DSL w wr d s' dz (laS k [] []) → Calls Tryd.prog 11 #[.pointer (some ⟨s', 0, none⟩)] wr fun e w' => e = .returned (.int .i64 (r : Int)) ∧ wr = w') := Lib.hid (fun wr h => by
            have hw := root_L h
            rw [show (laS k [] []).h.root = (r : Int) by show (laR k : Int) = _; rw [hr]] at hw
            exact hw)
          have RD : Hid (∀ wr, DSL w wr d s' dz (laS k [] []) → Calls Tryd.prog 20 #[.pointer (some ⟨s', 0, none⟩), .int .i64 (r : Int)] wr fun e w' => e = .returned (.tuple #[.int .i64 2, .string (T j), .int .i64 0]) ∧ DSL w w' d s' dz (laS k [] [])) := Lib.hid (fun wr h => by
            have hw := readS_L h (r : Int)
            subst hj
            have hq := la_read HC.out.1 HC.out.2 HTJ.out
            rw [hr] at hq
            rw [hq.1, hq.2] at hw
            exact hw)
          have US : Hid (∀ wr, DSL w wr d s' dz (laS k [] []) → Calls Tryd.prog 19 #[.pointer (some ⟨s', 0, none⟩)] wr fun e w' => (∃ a cap, e = .returned (.slice a 1 cap)) ∧ Below wr.heap.size wr w') := Lib.hid (fun wr h => by
            have hw := used_L h
            rw [HC.out.1.len, (la_dec k HK13.out).2.2.2.2.1, if_neg hk0] at hw
            exact hw)
          have LF : Hid (∀ wr, DSL w wr d s' dz (laS k [] []) → Calls Tryd.prog 21 #[.pointer (some ⟨s', 0, none⟩)] wr fun e w' => e = .returned (.int .i64 17) ∧ Below wr.heap.size wr w') := Lib.hid (fun wr h => by
            have hw := left_L h
            rw [HC.out.1.len, la_left k HK13.out (by omega)] at hw
            exact hw)
          have hkz : ((k : Int) == 0) = false := by simp; omega
          have ej : IntKind.i64.wrap ((k : Int) - 1) = (j : Int) := by have := HK13.out; rw [show (k : Int) - 1 = (j : Int) by omega]; exact IntWalk.i64_in _ (by omega)
          have hjn : j < len := by have := HU.out; omega
          have hjl : (j : Int) < (len : Int) := by omega
          obtain ⟨x, sj, hax, CELL⟩ := CELLS.out j hjn
          obtain ⟨mn, hmn⟩ : ∃ mn : Int, (if (240 : Int) < (sj.size : Int) then (240 : Int) else (sj.size : Int)) = mn := ⟨_, rfl⟩
          have hcut := (CUT.out j).2 sj (CELL.out.2) mn hmn
          replace CELL := Lib.hid CELL.out.1
          have hmin0 : (0 : Int) ≤ mn := by rw [← hmn]; split <;> omega
          have hmin1 : mn ≤ (sj.size : Int) := by rw [← hmn]; split <;> omega
          generalize T j = X at *
          subst hax
          clear hk0 hj hr HTJ hjn
          go_wp2_with fail
          refine (GN.out _ HS4.out).mono ?_
          rintro e w9 ⟨rfl, rfl⟩
          go_wp2_with fail
          refine (RT.out _ HS4.out).mono ?_
          rintro e w9 ⟨rfl, rfl⟩
          go_wp2_with fail
          refine (RD.out _ HS4.out).mono ?_
          rintro e w5 ⟨rfl, hs⟩
          have HSD := Lib.hid hs
          clear hs HS4 RD RT GN
          go_upto_region 35 with fail
          have HS9 := Lib.hid (HSD.out.step (Below.refl _ _).drew)
          clear HSD
          refine wp_region_held_drew (S := fun w' => Below w.heap.size w w') (by kernel_rfl) HS9.out.below (fun hS => ?_)
          refine held_take (i := 0) 155 (v := ?vb8q0x1) rfl rfl (by kernel_rfl) (by kernel_rfl) (by kernel_rfl) (fun _ _ _ h => h) hS (by rfl) ?hb8q0x1 ?rb8q0x1
          case hb8q0x1 =>
            intro w9 s9
            clear s9
            go_simp
            try (with_reducible rfl)
          simp only [List.setIfInBounds_toArray, List.set_cons_zero, List.set_cons_succ]
          refine held_take (i := 1) 156 (v := ?vb8q1x2) rfl rfl (by kernel_rfl) (by kernel_rfl) (by kernel_rfl) (fun _ _ _ h => h) hS (by rfl) ?hb8q1x2 ?rb8q1x2
          case hb8q1x2 =>
            intro w9 s9
            clear s9
            go_simp
            try (with_reducible rfl)
          simp only [List.setIfInBounds_toArray, List.set_cons_zero, List.set_cons_succ]
          refine held_take (i := 2) 157 (v := ?vb8q2x3) rfl rfl (by kernel_rfl) (by kernel_rfl) (by kernel_rfl) (fun _ _ _ h => h) hS (by rfl) ?hb8q2x3 ?rb8q2x3
          case hb8q2x3 =>
            intro w9 s9
            clear s9
            go_simp
            try (with_reducible rfl)
          simp only [List.setIfInBounds_toArray, List.set_cons_zero, List.set_cons_succ]
          refine held_take (i := 3) 158 (v := ?vb8q3x4) rfl rfl (by kernel_rfl) (by kernel_rfl) (by kernel_rfl) (fun _ _ _ h => h) hS (by rfl) ?hb8q3x4 ?rb8q3x4
          case hb8q3x4 =>
            intro w9 s9
            clear s9
            go_simp
            try (with_reducible rfl)
          simp only [List.setIfInBounds_toArray, List.set_cons_zero, List.set_cons_succ]
          refine held_take (i := 4) 159 (v := ?vb8q4x5) rfl rfl (by kernel_rfl) (by kernel_rfl) (by kernel_rfl) (fun _ _ _ h => h) hS (by rfl) ?hb8q4x5 ?rb8q4x5
          case hb8q4x5 =>
            intro w9 s9
            clear s9
            go_simp
            try (with_reducible rfl)
          simp only [List.setIfInBounds_toArray, List.set_cons_zero, List.set_cons_succ]
          refine held_take (i := 5) 160 (v := ?vb8q5x6) rfl rfl (by kernel_rfl) (by kernel_rfl) (by kernel_rfl) (fun _ _ _ h => h) hS (by rfl) ?hb8q5x6 ?rb8q5x6
          case hb8q5x6 =>
            intro w9 s9
            clear s9
            go_simp
            try (with_reducible rfl)
          simp only [List.setIfInBounds_toArray, List.set_cons_zero, List.set_cons_succ]
          refine held_take (i := 6) 161 (v := ?vb8q6x7) rfl rfl (by kernel_rfl) (by kernel_rfl) (by kernel_rfl) (fun _ _ _ h => h) hS (by rfl) ?hb8q6x7 ?rb8q6x7
          case hb8q6x7 =>
            intro w9 s9
            clear s9
            go_simp
            try (with_reducible rfl)
          simp only [List.setIfInBounds_toArray, List.set_cons_zero, List.set_cons_succ]
          refine held_take (i := 7) 162 (v := ?vb8q7x8) rfl rfl (by kernel_rfl) (by kernel_rfl) (by kernel_rfl) (fun _ _ _ h => h) hS (by rfl) ?hb8q7x8 ?rb8q7x8
          case hb8q7x8 =>
            intro w9 s9
            clear s9
            go_simp
            try (with_reducible rfl)
          simp only [List.setIfInBounds_toArray, List.set_cons_zero, List.set_cons_succ]
          refine held_take (i := 8) 163 (v := ?vb8q8x9) rfl rfl (by kernel_rfl) (by kernel_rfl) (by kernel_rfl) (fun _ _ _ h => h) hS (by rfl) ?hb8q8x9 ?rb8q8x9
          case hb8q8x9 =>
            intro w9 s9
            clear s9
            go_simp
            try (with_reducible rfl)
          simp only [List.setIfInBounds_toArray, List.set_cons_zero, List.set_cons_succ]
          refine held_take (i := 9) 164 (v := ?vb8q9x10) rfl rfl (by kernel_rfl) (by kernel_rfl) (by kernel_rfl) (fun _ _ _ h => h) hS (by rfl) ?hb8q9x10 ?rb8q9x10
          case hb8q9x10 =>
            intro w9 s9
            clear s9
            go_simp
            try (with_reducible rfl)
          simp only [List.setIfInBounds_toArray, List.set_cons_zero, List.set_cons_succ]
          refine held_take (i := 10) 165 (v := ?vb8q10x11) rfl rfl (by kernel_rfl) (by kernel_rfl) (by kernel_rfl) (fun _ _ _ h => h) hS (by rfl) ?hb8q10x11 ?rb8q10x11
          case hb8q10x11 =>
            intro w9 s9
            clear s9
            go_simp
            try (with_reducible rfl)
          simp only [List.setIfInBounds_toArray, List.set_cons_zero, List.set_cons_succ]
          refine held_take (i := 11) 166 (v := ?vb8q11x12) rfl rfl (by kernel_rfl) (by kernel_rfl) (by kernel_rfl) (fun _ _ _ h => h) hS (by rfl) ?hb8q11x12 ?rb8q11x12
          case hb8q11x12 =>
            intro w9 s9
            clear s9
            go_simp
            try (with_reducible rfl)
          simp only [List.setIfInBounds_toArray, List.set_cons_zero, List.set_cons_succ]
          refine held_take (i := 12) 167 (v := ?vb8q12x13) rfl rfl (by kernel_rfl) (by kernel_rfl) (by kernel_rfl) (fun _ _ _ h => h) hS (by rfl) ?hb8q12x13 ?rb8q12x13
          case hb8q12x13 =>
            intro w9 s9
            clear s9
            go_simp
            try (with_reducible rfl)
          simp only [List.setIfInBounds_toArray, List.set_cons_zero, List.set_cons_succ]
          refine held_take (i := 13) 168 (v := ?vb8q13x14) rfl rfl (by kernel_rfl) (by kernel_rfl) (by kernel_rfl) (fun _ _ _ h => h) hS (by rfl) ?hb8q13x14 ?rb8q13x14
          case hb8q13x14 =>
            intro w9 s9
            clear s9
            go_simp
            try (with_reducible rfl)
          simp only [List.setIfInBounds_toArray, List.set_cons_zero, List.set_cons_succ]
          refine held_take (i := 14) 169 (v := ?vb8q14x15) rfl rfl (by kernel_rfl) (by kernel_rfl) (by kernel_rfl) (fun _ _ _ h => h) hS (by rfl) ?hb8q14x15 ?rb8q14x15
          case hb8q14x15 =>
            intro w9 s9
            clear s9
            go_simp
            try (with_reducible rfl)
          simp only [List.setIfInBounds_toArray, List.set_cons_zero, List.set_cons_succ]
          refine held_take (i := 15) 170 (v := ?vb8q15x16) rfl rfl (by kernel_rfl) (by kernel_rfl) (by kernel_rfl) (fun _ _ _ h => h) hS (by rfl) ?hb8q15x16 ?rb8q15x16
          case hb8q15x16 =>
            intro w9 s9
            have cX : w9.cell? (x.add j) = some (.string sj) := CELL.out w9 s9
            clear s9
            go_simp
            try (with_reducible rfl)
          simp only [List.setIfInBounds_toArray, List.set_cons_zero, List.set_cons_succ]
          refine held_take (i := 16) 171 (v := ?vb8q16x17) rfl rfl (by kernel_rfl) (by kernel_rfl) (by kernel_rfl) (fun _ _ _ h => h) hS (by rfl) ?hb8q16x17 ?rb8q16x17
          case hb8q16x17 =>
            intro w9 s9
            clear s9
            go_simp
            try (with_reducible rfl)
          simp only [List.setIfInBounds_toArray, List.set_cons_zero, List.set_cons_succ]
          refine held_take (i := 17) 172 (v := ?vb8q17x18) rfl rfl (by kernel_rfl) (by kernel_rfl) (by kernel_rfl) (fun _ _ _ h => h) hS (by rfl) ?hb8q17x18 ?rb8q17x18
          case hb8q17x18 =>
            intro w9 s9
            clear s9
            go_simp
            try (with_reducible rfl)
          simp only [List.setIfInBounds_toArray, List.set_cons_zero, List.set_cons_succ]
          refine held_take (i := 18) 173 (v := ?vb8q18x19) rfl rfl (by kernel_rfl) (by kernel_rfl) (by kernel_rfl) (fun _ _ _ h => h) hS (by rfl) ?hb8q18x19 ?rb8q18x19
          case hb8q18x19 =>
            intro w9 s9
            clear s9
            go_simp
            try (with_reducible rfl)
          simp only [List.setIfInBounds_toArray, List.set_cons_zero, List.set_cons_succ]
          refine held_take (i := 19) 174 (v := ?vb8q19x20) rfl rfl (by kernel_rfl) (by kernel_rfl) (by kernel_rfl) (fun _ _ _ h => h) hS (by rfl) ?hb8q19x20 ?rb8q19x20
          case hb8q19x20 =>
            intro w9 s9
            clear s9
            go_simp
            try (with_reducible rfl)
          simp only [List.setIfInBounds_toArray, List.set_cons_zero, List.set_cons_succ]
          refine held_take (i := 20) 175 (v := ?vb8q20x21) rfl rfl (by kernel_rfl) (by kernel_rfl) (by kernel_rfl) (fun _ _ _ h => h) hS (by rfl) ?hb8q20x21 ?rb8q20x21
          case hb8q20x21 =>
            intro w9 s9
            have cX : w9.cell? (x.add j) = some (.string sj) := CELL.out w9 s9
            clear s9
            go_simp
            try (with_reducible rfl)
          simp only [List.setIfInBounds_toArray, List.set_cons_zero, List.set_cons_succ]
          refine held_take (i := 21) 176 (v := ?vb8q21x22) rfl rfl (by kernel_rfl) (by kernel_rfl) (by kernel_rfl) (fun _ _ _ h => h) hS (by rfl) ?hb8q21x22 ?rb8q21x22
          case hb8q21x22 =>
            intro w9 s9
            clear s9
            go_simp
            try (with_reducible rfl)
          simp only [List.setIfInBounds_toArray, List.set_cons_zero, List.set_cons_succ]
          refine held_take (i := 22) 177 (v := ?vb8q22x23) rfl rfl (by kernel_rfl) (by kernel_rfl) (by kernel_rfl) (fun _ _ _ h => h) hS (by rfl) ?hb8q22x23 ?rb8q22x23
          case hb8q22x23 =>
            intro w9 s9
            clear s9
            go_simp
            try (with_reducible rfl)
          simp only [List.setIfInBounds_toArray, List.set_cons_zero, List.set_cons_succ]
          refine held_take (i := 23) 178 (v := ?vb8q23x24) rfl rfl (by kernel_rfl) (by kernel_rfl) (by kernel_rfl) (fun _ _ _ h => h) hS (by rfl) ?hb8q23x24 ?rb8q23x24
          case hb8q23x24 =>
            intro w9 s9
            clear s9
            go_simp
            try (with_reducible rfl)
          simp only [List.setIfInBounds_toArray, List.set_cons_zero, List.set_cons_succ]
          refine held_take (i := 24) 179 (v := ?vb8q24x25) rfl rfl (by kernel_rfl) (by kernel_rfl) (by kernel_rfl) (fun _ _ _ h => h) hS (by rfl) ?hb8q24x25 ?rb8q24x25
          case hb8q24x25 =>
            intro w9 s9
            clear s9
            go_simp
            try (with_reducible rfl)
          simp only [List.setIfInBounds_toArray, List.set_cons_zero, List.set_cons_succ]
          refine held_take (i := 25) 180 (v := ?vb8q25x26) rfl rfl (by kernel_rfl) (by kernel_rfl) (by kernel_rfl) (fun _ _ _ h => h) hS (by rfl) ?hb8q25x26 ?rb8q25x26
          case hb8q25x26 =>
            intro w9 s9
            clear s9
            go_simp
            try (with_reducible rfl)
          simp only [List.setIfInBounds_toArray, List.set_cons_zero, List.set_cons_succ]
          refine held_take (i := 26) 181 (v := ?vb8q26x27) rfl rfl (by kernel_rfl) (by kernel_rfl) (by kernel_rfl) (fun _ _ _ h => h) hS (by rfl) ?hb8q26x27 ?rb8q26x27
          case hb8q26x27 =>
            intro w9 s9
            clear s9
            go_simp
            try (with_reducible rfl)
          simp only [List.setIfInBounds_toArray, List.set_cons_zero, List.set_cons_succ]
          refine held_take (i := 27) 182 (v := ?vb8q27x28) rfl rfl (by kernel_rfl) (by kernel_rfl) (by kernel_rfl) (fun _ _ _ h => h) hS (by rfl) ?hb8q27x28 ?rb8q27x28
          case hb8q27x28 =>
            intro w9 s9
            clear s9
            go_simp
            try (with_reducible rfl)
          simp only [List.setIfInBounds_toArray, List.set_cons_zero, List.set_cons_succ]
          refine held_step (i := 28) rfl (by kernel_rfl) (fun K hK => ?_)
          have HK := Lib.hid hK
          clear hK
          go_simp
          go_wp2_with fail
          refine (US.out _ HS9.out).mono ?_
          rintro e v4 ⟨⟨ua, ucap, rfl⟩, b9⟩
          refine HK.out _ _ ?_ ?_
          · exact chain hS b9
          clear HK K
          try simp only [Act.put, List.setIfInBounds_toArray, List.set_cons_zero, List.set_cons_succ]
          have hS9 := chain hS b9
          clear hS
          have hS := hS9
          clear hS9
          have HSn := Lib.hid (HS9.out.step b9)
          clear HS9 b9
          have HS9 := HSn
          clear HSn
          refine held_take (i := 29) 184 (v := ?vb8q29x29) rfl rfl (by kernel_rfl) (by kernel_rfl) (by kernel_rfl) (fun _ _ _ h => h) hS (by rfl) ?hb8q29x29 ?rb8q29x29
          case hb8q29x29 =>
            intro w9 s9
            clear s9
            go_simp
            try (with_reducible rfl)
          simp only [List.setIfInBounds_toArray, List.set_cons_zero, List.set_cons_succ]
          refine held_take (i := 30) 185 (v := ?vb8q30x30) rfl rfl (by kernel_rfl) (by kernel_rfl) (by kernel_rfl) (fun _ _ _ h => h) hS (by rfl) ?hb8q30x30 ?rb8q30x30
          case hb8q30x30 =>
            intro w9 s9
            clear s9
            go_simp
            try (with_reducible rfl)
          simp only [List.setIfInBounds_toArray, List.set_cons_zero, List.set_cons_succ]
          refine held_take (i := 31) 186 (v := ?vb8q31x31) rfl rfl (by kernel_rfl) (by kernel_rfl) (by kernel_rfl) (fun _ _ _ h => h) hS (by rfl) ?hb8q31x31 ?rb8q31x31
          case hb8q31x31 =>
            intro w9 s9
            clear s9
            go_simp
            try (with_reducible rfl)
          simp only [List.setIfInBounds_toArray, List.set_cons_zero, List.set_cons_succ]
          refine held_take (i := 32) 187 (v := ?vb8q32x32) rfl rfl (by kernel_rfl) (by kernel_rfl) (by kernel_rfl) (fun _ _ _ h => h) hS (by rfl) ?hb8q32x32 ?rb8q32x32
          case hb8q32x32 =>
            intro w9 s9
            clear s9
            go_simp
            try (with_reducible rfl)
          simp only [List.setIfInBounds_toArray, List.set_cons_zero, List.set_cons_succ]
          refine held_take (i := 33) 188 (v := ?vb8q33x33) rfl rfl (by kernel_rfl) (by kernel_rfl) (by kernel_rfl) (fun _ _ _ h => h) hS (by rfl) ?hb8q33x33 ?rb8q33x33
          case hb8q33x33 =>
            intro w9 s9
            clear s9
            go_simp
            try (with_reducible rfl)
          simp only [List.setIfInBounds_toArray, List.set_cons_zero, List.set_cons_succ]
          refine held_step (i := 34) rfl (by kernel_rfl) (fun K hK => ?_)
          have HK := Lib.hid hK
          clear hK
          go_simp
          go_wp2_with fail
          refine (LF.out _ HS9.out).mono ?_
          rintro e v4 ⟨rfl, b9⟩
          refine HK.out _ _ ?_ ?_
          · exact chain hS b9
          clear HK K
          try simp only [Act.put, List.setIfInBounds_toArray, List.set_cons_zero, List.set_cons_succ]
          have hS9 := chain hS b9
          clear hS
          have hS := hS9
          clear hS9
          have HSn := Lib.hid (HS9.out.step b9)
          clear HS9 b9
          have HS9 := HSn
          clear HSn
          refine held_take (i := 35) 190 (v := ?vb8q35x34) rfl rfl (by kernel_rfl) (by kernel_rfl) (by kernel_rfl) (fun _ _ _ h => h) hS (by rfl) ?hb8q35x34 ?rb8q35x34
          case hb8q35x34 =>
            intro w9 s9
            clear s9
            go_simp
            try (with_reducible rfl)
          simp only [List.setIfInBounds_toArray, List.set_cons_zero, List.set_cons_succ]
          refine held_take (i := 36) 191 (v := ?vb8q36x35) rfl rfl (by kernel_rfl) (by kernel_rfl) (by kernel_rfl) (fun _ _ _ h => h) hS (by rfl) ?hb8q36x35 ?rb8q36x35
          case hb8q36x35 =>
            intro w9 s9
            clear s9
            go_simp
            try (with_reducible rfl)
          simp only [List.setIfInBounds_toArray, List.set_cons_zero, List.set_cons_succ]
          refine held_take (i := 37) 6 (v := ?vb8q37x36) rfl rfl (by kernel_rfl) (by kernel_rfl) (by kernel_rfl) (fun _ _ _ h => h) hS (by rfl) ?hb8q37x36 ?rb8q37x36
          case hb8q37x36 =>
            intro w9 s9
            clear s9
            go_simp
            try (with_reducible rfl)
          simp only [List.setIfInBounds_toArray, List.set_cons_zero, List.set_cons_succ]
          refine wpAnyH_done (by kernel_rfl) ?_ _
          clear HS9
          have BF := Lib.hid hS
          clear hS
          go_wp2_with fail
          go_ret
          exact ⟨rfl, BF.out⟩

end Go.Proofs.YtbjmbndeaobbeaaDoor
