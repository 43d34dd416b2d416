/-
  Package shadow: Take, Give, what may be the root.
-/
import Derived.Test.YtbjmbndeaobbeaaDoorShM2
import Derived.Deep.DeepCutAuto
namespace Go.Proofs.YtbjmbndeaobbeaaDoor
open Go.RowKit
set_option linter.unusedVariables false
set_option linter.unusedSimpArgs false
set_option maxHeartbeats 800000 in
set_option maxRecDepth 20000 in
theorem stoTake_down (w : World) (s d : Nat) (st : ShS) (F : Nat → Prop) (h : Sto w s d st F) (hu : st.up = false) :
    Calls Tryd.prog 12 #[.pointer (some ⟨s, 0, none⟩)] w fun e w' => e = .returned (.tuple #[.int .i64 0, .int .i64 5]) ∧ w = w' := by
  obtain ⟨f, g, hi, he⟩ := h
  obtain ⟨c0, c1, c2, c3, c4, c5, c6⟩ := hi.cells
  rw [hu] at c6
  clear hi he
  go_enter Tryd.func12, Tryd.ntmps12
  go_wp2_with fail
  go_ret2
  exact ⟨rfl, rfl⟩
theorem free_parts {st : ShS} {n : Int} (h : freeB st n = false) : hasB st.h.used n = true ∨ (hasB st.h.used n = false ∧ decide (n ∈ st.fresh) = true) := by
  unfold freeB at h
  cases h1 : hasB st.h.used n <;> cases h2 : decide (n ∈ st.fresh) <;> simp_all
set_option maxHeartbeats 3200000 in
set_option maxRecDepth 20000 in
theorem stoTake_yes (w : World) (s d : Nat) (dk : DkS) (st : ShS) (FD F : Nat → Prop) (hd : Dk w d dk FD) (h : Sto w s d st F) (hu : st.up = true) (j : Nat) (h2 : 2 ≤ j) (hj : (j : Int) < (dk.S.length : Int)) (hall : ∀ k : Nat, 2 ≤ k → k < j → freeB st (k : Int) = false) (hf : freeB st (j : Int) = true) :
    Calls Tryd.prog 12 #[.pointer (some ⟨s, 0, none⟩)] w fun e w' => e = .returned (.tuple #[.int .i64 (j : Int), .int .i64 0]) ∧ Sto w' s d { st with fresh := st.fresh ++ [(j : Int)] } F ∧ Frm F w w' := by
  have hz := hd.ok.few
  have hj6 : j < 640 := by omega
  have hnf : (j : Int) ∉ st.fresh ∧ hasB st.h.used (j : Int) = false ∧ decide ((j : Int) ∈ st.fresh) = false := by
    unfold freeB at hf
    simp only [Bool.and_eq_true, Bool.not_eq_true'] at hf
    exact ⟨by simpa using hf.2, hf.1, hf.2⟩
  have SZ := Lib.hid (fun w' (hb : Below w.heap.size w w') => stosize_is w' s d st F (h.below hb) dk FD (hd.below hb))
  have US := Lib.hid (fun (k : Nat) (hk : k ≤ 640) w' (hb : Below w.heap.size w w') => used_is w' s d st F (h.below hb) (k : Int) (by omega))
  have HA := Lib.hid hall
  obtain ⟨f0, g0, hi0, he0⟩ := h
  have PH := Lib.hid (fun (k : Nat) w' (hb : Below w.heap.size w w') => pages_has f0 st.fresh (k : Int) w' (hi0.kept (fun k hk => hb.block k (hi0.lt k hk))).fr)
  have CE := Lib.hid (fun w' (hb : Below w.heap.size w w') => (hi0.kept (fun k hk => hb.block k (hi0.lt k hk))).cells)
  have PU : Hid (∀ w' (hb : Below w.heap.size w w'), ∃ w2, (Instr.mapUpdate 56 (.map (some f0)) (.int .i64 (j : Int)) (.agg #[])).run Tryd.prog w' = .ok () w2 ∧ Sto w2 s d { st with fresh := st.fresh ++ [(j : Int)] } F ∧ Frm F w w2) := Lib.hid (fun w' hb => by
    have hk := hi0.kept (fun k hk => hb.block k (hi0.lt k hk))
    obtain ⟨f, w2, q1, q2, q3, q4⟩ := Sto.putFresh (F := F) ⟨f0, g0, hk, he0⟩ (j : Int) hnf.1 (by omega) (by omega)
    rw [hk.cells.2.2.2.2.1] at q1
    cases q1
    exact ⟨w2, q2, q3, (Frm.of_below hb).trans q4 (fun i hi => .inl hi)⟩)
  obtain ⟨c0, c1, c2, c3, c4, c5, c6⟩ := hi0.cells
  rw [hu] at c6
  obtain ⟨nf1, nf2, nf3⟩ := hnf
  generalize (dk.S.length : Int) = z at *
  clear hi0 he0 hall hf hd
  go_enter Tryd.func12, Tryd.ntmps12
  go_wp2_with fail
  go_loopw [4] (fun i wr => ∃ k : Nat, 2 ≤ k ∧ k ≤ j ∧ i = .int .i64 (k : Int) ∧ Below w.heap.size w wr) (fun i _ => 641 - (intOf i).toNat)
  case atStart => exact ⟨2, Nat.le_refl _, h2, rfl, Below.refl _ _⟩
  case round =>
    obtain ⟨k, hk2, hkj, rfl, hb⟩ := hrel
    have HB := Lib.hid hb
    have S1 := Lib.hid (SZ.out wr hb)
    have U1 := Lib.hid (US.out k (by omega) wr hb)
    have P1 := Lib.hid (PH.out k wr hb)
    obtain ⟨x0, x1, x2, x3, x4, x5, x6⟩ := CE.out wr hb
    have hkz : (k : Int) < z := by omega
    clear hb c0 c1 c2 c3 c4 c5 c6
    by_cases hlt : k < j
    · rcases free_parts (HA.out k hk2 hlt) with q1 | ⟨q1, q2⟩
      · rw [q1] at U1
        go_wp2_with fail
        refine S1.out.mono ?_
        rintro e w1 ⟨rfl, rfl⟩
        go_wp2_with fail
        refine U1.out.mono ?_
        rintro e w1 ⟨rfl, rfl⟩
        go_wp2_with fail
        go_roundw
        case rel => exact ⟨k + 1, by omega, by omega, by go_num, HB.out⟩
        case measure => simp [intOf]; omega
      · rw [q1] at U1
        rw [q2] at P1
        go_wp2_with fail
        refine S1.out.mono ?_
        rintro e w1 ⟨rfl, rfl⟩
        go_wp2_with fail
        refine U1.out.mono ?_
        rintro e w1 ⟨rfl, rfl⟩
        go_wp2_with fail
        refine P1.out.mono ?_
        rintro e w2 ⟨rfl, b2⟩
        have B2 := Lib.hid (chain HB.out b2)
        clear b2
        go_wp2_with fail
        go_roundw
        case rel => exact ⟨k + 1, by omega, by omega, by go_num, B2.out⟩
        case measure => simp [intOf]; omega
    · obtain rfl : k = j := by omega
      rw [nf2] at U1
      rw [nf3] at P1
      go_wp2_with fail
      refine S1.out.mono ?_
      rintro e w1 ⟨rfl, rfl⟩
      go_wp2_with fail
      refine U1.out.mono ?_
      rintro e w1 ⟨rfl, rfl⟩
      go_wp2_with fail
      refine P1.out.mono ?_
      rintro e w2 ⟨rfl, b2⟩
      have B2 := chain HB.out b2
      obtain ⟨y0, y1, y2, y3, y4, y5, y6⟩ := CE.out w2 B2
      obtain ⟨w3, hup, h3, f3⟩ := PU.out w2 B2
      have FIN := Lib.hid (And.intro h3 f3)
      clear b2 h3 f3 B2 x0 x1 x2 x3 x4 x5 x6
      go_wp2_with fail
      try rw [Exit.noGoto_ret]
      go_ret2
      exact ⟨rfl, FIN.out⟩
set_option maxHeartbeats 3200000 in
set_option maxRecDepth 20000 in
theorem stoTake_full (w : World) (s d : Nat) (dk : DkS) (st : ShS) (FD F : Nat → Prop) (hd : Dk w d dk FD) (h : Sto w s d st F) (hu : st.up = true) (hall : ∀ k : Nat, 2 ≤ k → k < dk.S.length → freeB st (k : Int) = false) :
    Calls Tryd.prog 12 #[.pointer (some ⟨s, 0, none⟩)] w fun e w' => e = .returned (.tuple #[.int .i64 0, .int .i64 4]) ∧ Below w.heap.size w w' := by
  have hz := hd.ok.few
  have h8 := hd.ok.least
  have SZ := Lib.hid (fun w' (hb : Below w.heap.size w w') => stosize_is w' s d st F (h.below hb) dk FD (hd.below hb))
  have US := Lib.hid (fun (k : Nat) (hk : k ≤ 640) w' (hb : Below w.heap.size w w') => used_is w' s d st F (h.below hb) (k : Int) (by omega))
  have HA := Lib.hid hall
  obtain ⟨f0, g0, hi0, he0⟩ := h
  have PH := Lib.hid (fun (k : Nat) w' (hb : Below w.heap.size w w') => pages_has f0 st.fresh (k : Int) w' (hi0.kept (fun k hk => hb.block k (hi0.lt k hk))).fr)
  have CE := Lib.hid (fun w' (hb : Below w.heap.size w w') => (hi0.kept (fun k hk => hb.block k (hi0.lt k hk))).cells)
  obtain ⟨c0, c1, c2, c3, c4, c5, c6⟩ := hi0.cells
  rw [hu] at c6
  generalize dk.S.length = z at *
  clear hi0 he0 hall hd
  go_enter Tryd.func12, Tryd.ntmps12
  go_wp2_with fail
  go_loopw [4] (fun i wr => ∃ k : Nat, 2 ≤ k ∧ k ≤ z ∧ i = .int .i64 (k : Int) ∧ Below w.heap.size w wr) (fun i _ => 641 - (intOf i).toNat)
  case atStart => exact ⟨2, Nat.le_refl _, by omega, rfl, Below.refl _ _⟩
  case round =>
    obtain ⟨k, hk2, hkj, rfl, hb⟩ := hrel
    have HB := Lib.hid hb
    have S1 := Lib.hid (SZ.out wr hb)
    have U1 := Lib.hid (US.out k (by omega) wr hb)
    have P1 := Lib.hid (PH.out k wr hb)
    obtain ⟨x0, x1, x2, x3, x4, x5, x6⟩ := CE.out wr hb
    clear hb c0 c1 c2 c3 c4 c5 c6
    by_cases hlt : k < z
    · have hkz : (k : Int) < (z : Int) := by omega
      rcases free_parts (HA.out k hk2 hlt) with q1 | ⟨q1, q2⟩
      · rw [q1] at U1
        go_wp2_with fail
        refine S1.out.mono ?_
        rintro e w1 ⟨rfl, rfl⟩
        go_wp2_with fail
        refine U1.out.mono ?_
        rintro e w1 ⟨rfl, rfl⟩
        go_wp2_with fail
        go_roundw
        case rel => exact ⟨k + 1, by omega, by omega, by go_num, HB.out⟩
        case measure => simp [intOf]; omega
      · rw [q1] at U1
        rw [q2] at P1
        go_wp2_with fail
        refine S1.out.mono ?_
        rintro e w1 ⟨rfl, rfl⟩
        go_wp2_with fail
        refine U1.out.mono ?_
        rintro e w1 ⟨rfl, rfl⟩
        go_wp2_with fail
        refine P1.out.mono ?_
        rintro e w2 ⟨rfl, b2⟩
        have B2 := Lib.hid (chain HB.out b2)
        clear b2
        go_wp2_with fail
        go_roundw
        case rel => exact ⟨k + 1, by omega, by omega, by go_num, B2.out⟩
        case measure => simp [intOf]; omega
    · have hkz : ¬ (k : Int) < (z : Int) := by omega
      go_wp2_with fail
      refine S1.out.mono ?_
      rintro e w1 ⟨rfl, rfl⟩
      go_wp2_with fail
      try rw [Exit.noGoto_ret]
      go_ret2
      exact ⟨rfl, HB.out⟩
def mayB (st : ShS) (n : Int) : Bool := decide (n = 0) || decide (n ∈ st.fresh) || (hasB st.h.used n && !decide (n ∈ st.given))
def ShS.give (st : ShS) (n : Int) : ShS × Int :=
  if st.up = false then (st, 5) else if n ∈ st.fresh then ({ st with fresh := st.fresh.filter fun x => decide (x ≠ n) }, 0)
  else if hasB st.h.used n = true ∧ n ∉ st.given then ({ st with given := st.given ++ [n] }, 0) else (st, 6)
set_option maxHeartbeats 3200000 in
set_option maxRecDepth 20000 in
theorem give_is (w : World) (s d : Nat) (st : ShS) (F : Nat → Prop) (h : Sto w s d st F) (n : Int) (hn : n < 9223372036854775808) (hb : hasB st.h.used n = true → 2 ≤ n ∧ n < 640) :
    Calls Tryd.prog 14 #[.pointer (some ⟨s, 0, none⟩), .int .i64 n] w fun e w' => e = .returned (.int .i64 (st.give n).2) ∧ Sto w' s d (st.give n).1 F ∧ Frm F w w' := by
  have H := Lib.hid h
  have US := Lib.hid (fun w' (hb : Below w.heap.size w w') => used_is w' s d st F (h.below hb) n hn)
  obtain ⟨f0, g0, hi0, he0⟩ := h
  have PF := Lib.hid (pages_has f0 st.fresh n w hi0.fr)
  have PG := Lib.hid (fun w' (hb : Below w.heap.size w w') => pages_has g0 st.given n w' (hi0.kept (fun k hk => hb.block k (hi0.lt k hk))).gv)
  have CE := Lib.hid (fun w' (hb : Below w.heap.size w w') => (hi0.kept (fun k hk => hb.block k (hi0.lt k hk))).cells)
  have PD : Hid (∀ w' (hb : Below w.heap.size w w'), ∃ w2, (Builtin.delete_ #[56, 3] 0 #[.map (some f0), .int .i64 n]).run Tryd.prog w' = .ok (.tuple #[]) w2 ∧ Sto w2 s d { st with fresh := st.fresh.filter fun x => decide (x ≠ n) } F ∧ Frm F w w2) := Lib.hid (fun w' hb => by
    have hk := hi0.kept (fun k hk => hb.block k (hi0.lt k hk))
    obtain ⟨f, w2, q1, q2, q3, q4⟩ := Sto.delFresh (F := F) ⟨f0, g0, hk, he0⟩ n 0
    rw [hk.cells.2.2.2.2.1] at q1
    cases q1
    exact ⟨w2, q2, q3, (Frm.of_below hb).trans q4 (fun i hi => .inl hi)⟩)
  have PU : Hid (hasB st.h.used n = true → n ∉ st.given → ∀ w' (hb : Below w.heap.size w w'), ∃ w2, (Instr.mapUpdate 56 (.map (some g0)) (.int .i64 n) (.agg #[])).run Tryd.prog w' = .ok () w2 ∧ Sto w2 s d { st with given := st.given ++ [n] } F ∧ Frm F w w2) := Lib.hid (fun hu hg w' hbl => by
    have hk := hi0.kept (fun k hk => hbl.block k (hi0.lt k hk))
    obtain ⟨f, w2, q1, q2, q3, q4⟩ := Sto.putGiven (F := F) ⟨f0, g0, hk, he0⟩ n hg (hb hu).1 (hb hu).2
    rw [hk.cells.2.2.2.2.2.1] at q1
    cases q1
    exact ⟨w2, q2, q3, (Frm.of_below hbl).trans q4 (fun i hi => .inl hi)⟩)
  obtain ⟨c0, c1, c2, c3, c4, c5, c6⟩ := hi0.cells
  clear hi0 he0 hb hn
  cases hu : st.up
  · rw [show st.give n = (st, 5) from by unfold ShS.give; rw [hu]; rfl]
    rw [hu] at c6
    go_enter Tryd.func14, Tryd.ntmps14
    go_wp2_with fail
    go_ret
    exact ⟨rfl, H.out, Frm.refl _ _⟩
  · rw [hu] at c6
    by_cases h1 : n ∈ st.fresh
    · rw [show st.give n = ({ st with fresh := st.fresh.filter fun x => decide (x ≠ n) }, 0) from by unfold ShS.give; rw [hu, if_neg (by decide), if_pos h1]]
      rw [decide_eq_true h1] at PF
      clear h1 PU
      dsimp only
      go_enter Tryd.func14, Tryd.ntmps14
      go_wp2_with fail
      refine PF.out.mono ?_
      rintro e w1 ⟨rfl, b1⟩
      obtain ⟨x0, x1, x2, x3, x4, x5, x6⟩ := CE.out w1 b1
      obtain ⟨w2, hdel, h2, f2⟩ := PD.out w1 b1
      have FIN := Lib.hid (And.intro h2 f2)
      clear h2 f2 b1 c0 c1 c2 c3 c4 c5 c6
      go_wp2_with fail
      go_ret
      exact ⟨rfl, FIN.out⟩
    · rw [decide_eq_false h1] at PF
      cases hus : hasB st.h.used n
      · rw [show st.give n = (st, 6) from by unfold ShS.give; rw [hu, if_neg (by decide), if_neg h1, hus, if_neg (by simp)]]
        rw [hus] at US
        clear h1 PU PD
        go_enter Tryd.func14, Tryd.ntmps14
        go_wp2_with fail
        refine PF.out.mono ?_
        rintro e w1 ⟨rfl, b1⟩
        have U1 := Lib.hid (US.out w1 b1)
        have FIN := Lib.hid (And.intro (H.out.below b1) (Frm.of_below (F := F) b1))
        obtain ⟨x0, x1, x2, x3, x4, x5, x6⟩ := CE.out w1 b1
        clear b1 c0 c1 c2 c3 c4 c5 c6
        go_wp2_with fail
        refine U1.out.mono ?_
        rintro e w2 ⟨rfl, rfl⟩
        go_wp2_with fail
        go_ret
        exact ⟨rfl, FIN.out⟩
      · rw [hus] at US
        by_cases h2 : n ∈ st.given
        · rw [show st.give n = (st, 6) from by unfold ShS.give; rw [hu, if_neg (by decide), if_neg h1, hus, if_neg (by simp [h2])]]
          rw [decide_eq_true h2] at PG
          clear h1 h2 PU PD
          go_enter Tryd.func14, Tryd.ntmps14
          go_wp2_with fail
          refine PF.out.mono ?_
          rintro e w1 ⟨rfl, b1⟩
          have B1 := Lib.hid b1
          have U1 := Lib.hid (US.out w1 b1)
          have G1 := Lib.hid (PG.out w1 b1)
          obtain ⟨x0, x1, x2, x3, x4, x5, x6⟩ := CE.out w1 b1
          clear b1 c0 c1 c2 c3 c4 c5 c6
          go_wp2_with fail
          refine U1.out.mono ?_
          rintro e w2 ⟨rfl, rfl⟩
          go_wp2_with fail
          refine G1.out.mono ?_
          rintro e w2 ⟨rfl, b2⟩
          have b3 := chain B1.out b2
          have FIN := Lib.hid (And.intro (H.out.below b3) (Frm.of_below (F := F) b3))
          clear b2 b3
          go_wp2_with fail
          go_ret
          exact ⟨rfl, FIN.out⟩
        · rw [show st.give n = ({ st with given := st.given ++ [n] }, 0) from by unfold ShS.give; rw [hu, if_neg (by decide), if_neg h1, if_pos ⟨hus, h2⟩]]
          rw [decide_eq_false h2] at PG
          have PV := Lib.hid (PU.out hus h2)
          clear h1 h2 PU PD hus
          dsimp only
          go_enter Tryd.func14, Tryd.ntmps14
          go_wp2_with fail
          refine PF.out.mono ?_
          rintro e w1 ⟨rfl, b1⟩
          have B1 := Lib.hid b1
          have U1 := Lib.hid (US.out w1 b1)
          have G1 := Lib.hid (PG.out w1 b1)
          obtain ⟨x0, x1, x2, x3, x4, x5, x6⟩ := CE.out w1 b1
          clear b1 c0 c1 c2 c3 c4 c5 c6
          go_wp2_with fail
          refine U1.out.mono ?_
          rintro e w2 ⟨rfl, rfl⟩
          go_wp2_with fail
          refine G1.out.mono ?_
          rintro e w2 ⟨rfl, b2⟩
          have b3 := chain B1.out b2
          obtain ⟨y0, y1, y2, y3, y4, y5, y6⟩ := CE.out w2 b3
          obtain ⟨w4, hup, h4, f4⟩ := PV.out w2 b3
          have FIN := Lib.hid (And.intro h4 f4)
          clear b2 b3 h4 f4 x0 x1 x2 x3 x4 x5 x6
          go_wp2_with fail
          go_ret
          exact ⟨rfl, FIN.out⟩
set_option maxHeartbeats 3200000 in
set_option maxRecDepth 20000 in
theorem may_is (w : World) (s d : Nat) (st : ShS) (F : Nat → Prop) (h : Sto w s d st F) (n : Int) (hn : n < 9223372036854775808) (v : Bool) (hv : mayB st n = v) :
    Calls Tryd.prog 31 #[.pointer (some ⟨s, 0, none⟩), .int .i64 n] w fun e w' => e = .returned (.bool v) ∧ Below w.heap.size w w' := by
  have US := Lib.hid (fun w' (hb : Below w.heap.size w w') => used_is w' s d st F (h.below hb) n hn)
  obtain ⟨f0, g0, hi0, he0⟩ := h
  have PF := Lib.hid (pages_has f0 st.fresh n w hi0.fr)
  have PG := Lib.hid (fun w' (hb : Below w.heap.size w w') => pages_has g0 st.given n w' (hi0.kept (fun k hk => hb.block k (hi0.lt k hk))).gv)
  have CE := Lib.hid (fun w' (hb : Below w.heap.size w w') => (hi0.kept (fun k hk => hb.block k (hi0.lt k hk))).cells)
  obtain ⟨c0, c1, c2, c3, c4, c5, c6⟩ := hi0.cells
  unfold mayB at hv
  generalize decide (n ∈ st.fresh) = bf at *
  generalize decide (n ∈ st.given) = bg at *
  generalize hasB st.h.used n = bu at *
  clear hi0 he0 hn
  by_cases h0 : n = 0
  · subst h0
    have hv2 : v = true := by rw [← hv]; rfl
    subst hv2
    clear hv
    go_enter Tryd.func31, Tryd.ntmps31
    go_wp2_with fail
    go_ret
    exact ⟨rfl, Below.refl _ _⟩
  · have hb0 : (n == 0) = false := by simpa using h0
    rw [decide_eq_false h0, Bool.false_or] at hv
    cases bf
    · cases bu
      · have hv2 : v = false := by rw [← hv]; rfl
        subst hv2
        clear hv
        go_enter Tryd.func31, Tryd.ntmps31
        go_wp2_with fail
        refine PF.out.mono ?_
        rintro e w1 ⟨rfl, b1⟩
        have B1 := Lib.hid b1
        have U1 := Lib.hid (US.out w1 b1)
        obtain ⟨x0, x1, x2, x3, x4, x5, x6⟩ := CE.out w1 b1
        clear b1 c0 c1 c2 c3 c4 c5 c6
        go_wp2_with fail
        refine U1.out.mono ?_
        rintro e w2 ⟨rfl, rfl⟩
        go_wp2_with fail
        go_ret
        exact ⟨rfl, B1.out⟩
      · have hv2 : v = !bg := by rw [← hv]; cases bg <;> rfl
        subst hv2
        clear hv
        go_enter Tryd.func31, Tryd.ntmps31
        go_wp2_with fail
        refine PF.out.mono ?_
        rintro e w1 ⟨rfl, b1⟩
        have B1 := Lib.hid b1
        have U1 := Lib.hid (US.out w1 b1)
        have G1 := Lib.hid (PG.out w1 b1)
        obtain ⟨x0, x1, x2, x3, x4, x5, x6⟩ := CE.out w1 b1
        clear b1 c0 c1 c2 c3 c4 c5 c6
        go_wp2_with fail
        refine U1.out.mono ?_
        rintro e w2 ⟨rfl, rfl⟩
        go_wp2_with fail
        refine G1.out.mono ?_
        rintro e w2 ⟨rfl, b2⟩
        have B2 := chain B1.out b2
        go_wp2_with fail
        go_ret
        exact ⟨rfl, B2⟩
    · have hv2 : v = true := by rw [← hv]; rfl
      subst hv2
      clear hv
      go_enter Tryd.func31, Tryd.ntmps31
      go_wp2_with fail
      refine PF.out.mono ?_
      rintro e w1 ⟨rfl, b1⟩
      go_wp2_with fail
      go_ret
      exact ⟨rfl, b1⟩
end Go.Proofs.YtbjmbndeaobbeaaDoor
