/-
  Package shadow: does a head count?
-/
import Derived.Test.YtbjmbndeaobbeaaDoorShHead
import Derived.Deep.DeepCutAuto
namespace Go.Proofs.YtbjmbndeaobbeaaDoor
open Go.RowKit
set_option linter.unusedVariables false
set_option linter.unusedSimpArgs false
theorem counts_1 {h : HdS} {n size : Int} (h1 : ¬ 1 ≤ h.gen) : countsB h n size = false := by unfold countsB; rw [decide_eq_false h1]; rfl
theorem counts_2 {h : HdS} {n size : Int} (h1 : ¬ h.gen % 2 = n) : countsB h n size = false := by unfold countsB; rw [decide_eq_false h1]; simp
theorem counts_3 {h : HdS} {n size : Int} (i : Nat) (hi : i < 640) (h1 : strayB h size i = true) : countsB h n size = false := by
  unfold countsB
  have : ((List.range 640).all fun i => !strayB h size i) = false := by
    rw [List.all_eq_false]
    exact ⟨i, List.mem_range.2 hi, by rw [h1]; decide⟩
  rw [this]; simp
theorem counts_4 {h : HdS} {n size : Int} (h1 : 1 ≤ h.gen) (h2 : h.gen % 2 = n) (h3 : ∀ i, i < 640 → strayB h size i = false) : countsB h n size = (decide (h.root = 0) || hasB h.used h.root) := by
  unfold countsB
  have : ((List.range 640).all fun i => !strayB h size i) = true := by
    rw [List.all_eq_true]
    intro i hi
    rw [h3 i (List.mem_range.1 hi)]; rfl
  rw [this, decide_eq_true h1, decide_eq_true h2]; rfl
set_option maxHeartbeats 3200000 in
set_option maxRecDepth 20000 in
theorem counts_is (h : HdS) (n size : Int) (w : World) (g0 : -9223372036854775808 ≤ h.gen) (g1 : h.gen ≤ 9223372036854775807) (r1 : h.root ≤ 9223372036854775807) (v : Bool) (hv : Hid (countsB h n size = v)) :
    Calls Tryd.prog 60 #[hdV h, .int .i64 n, .int .i64 size] w fun e w' => e = .returned (.bool v) ∧ Below w.heap.size w w' := by
  have PL := Lib.hid (fun (hg : 0 ≤ h.gen) w => place_is h.gen w hg g1)
  have HI := Lib.hid (fun (i : Nat) (hi : i < 640) w => has_any h.used (i : Int) w (by omega))
  have HR := Lib.hid (fun w => has_any h.used h.root w (by omega))
  have E1 := Lib.hid (fun q => hv.out.symm.trans (counts_1 (h := h) (n := n) (size := size) q))
  have E2 := Lib.hid (fun q => hv.out.symm.trans (counts_2 (h := h) (n := n) (size := size) q))
  have E3 := Lib.hid (fun i hi q => hv.out.symm.trans (counts_3 (h := h) (n := n) (size := size) i hi q))
  have E4 := Lib.hid (fun q1 q2 q3 => hv.out.symm.trans (counts_4 (h := h) (n := n) (size := size) q1 q2 q3))
  have ST := Lib.hid (fun i => show strayB h size i = (hasB h.used (i : Int) && (decide ((i : Int) < 2) || decide (size ≤ (i : Int)))) from rfl)
  clear hv
  obtain ⟨g, r, u⟩ := h
  unfold hdV
  dsimp only at PL HI HR E1 E2 E3 E4 ST g0 g1 r1 ⊢
  have B0 := Lib.hid (below_made w (.cells #[.int .i64 g, .int .i64 r, .string u] 54))
  generalize hasB u r = hr at *
  by_cases h1 : g < 1
  · have hvf := E1.out (by omega)
    subst hvf
    go_enter Tryd.func60, Tryd.ntmps60
    go_wp2_with fail
    go_ret
    exact ⟨rfl, B0.out⟩
  · have P2 := Lib.hid (PL.out (by omega))
    by_cases h2 : g % 2 = n
    · have E4' := Lib.hid (E4.out (by omega) h2)
      rw [h2] at P2
      clear PL E1 E2 E4 h2
      go_enter Tryd.func60, Tryd.ntmps60
      go_wp2_with fail
      refine (P2.out _).mono ?_
      rintro e w1 ⟨rfl, rfl⟩
      go_wp2_with fail
      go_loop [18] (fun i => ∃ j : Nat, j ≤ 640 ∧ i = .int .i64 (j : Int) ∧ ∀ k, k < j → strayB ⟨g, r, u⟩ size k = false) (fun i => 641 - (intOf i).toNat)
      case atStart => exact ⟨0, Nat.zero_le _, rfl, fun k hk => absurd hk (Nat.not_lt_zero _)⟩
      case round =>
        obtain ⟨j, hj, rfl, hall⟩ := hrel
        have HA := Lib.hid hall
        clear hall
        by_cases hlt : j < 640
        · have hji : (j : Int) < 640 := by omega
          have HJ := Lib.hid (HI.out j hlt)
          have SJ := Lib.hid (ST.out j)
          have EJ := Lib.hid (E3.out j hlt)
          have NX : Hid (strayB ⟨g, r, u⟩ size j = false → ∀ k, k < j + 1 → strayB ⟨g, r, u⟩ size k = false) := Lib.hid (fun hs k hk => by
            by_cases he : k = j
            · subst he; exact hs
            · exact HA.out k (by omega))
          generalize hasB u (j : Int) = hbj at *
          clear E3 ST HA
          cases hbj
          · have NY := Lib.hid (NX.out (by rw [SJ.out]; rfl))
            clear NX EJ SJ
            go_wp2_with fail
            refine (HJ.out _).mono ?_
            rintro e w1 ⟨rfl, rfl⟩
            go_wp2_with fail
            go_round
            case rel => exact ⟨j + 1, by omega, by go_num, NY.out⟩
            case measure => simp [intOf]; omega
          · by_cases q1 : (j : Int) < 2
            · have hvf := EJ.out (by rw [SJ.out, decide_eq_true q1]; rfl)
              subst hvf
              clear NX EJ SJ
              go_wp2_with fail
              refine (HJ.out _).mono ?_
              rintro e w1 ⟨rfl, rfl⟩
              go_wp2_with fail
              try rw [Exit.noGoto_ret]
              go_ret
              exact ⟨rfl, B0.out⟩
            · by_cases q2 : size ≤ (j : Int)
              · have hvf := EJ.out (by rw [SJ.out, decide_eq_true q2]; simp)
                subst hvf
                clear NX EJ SJ
                go_wp2_with fail
                refine (HJ.out _).mono ?_
                rintro e w1 ⟨rfl, rfl⟩
                go_wp2_with fail
                try rw [Exit.noGoto_ret]
                go_ret
                exact ⟨rfl, B0.out⟩
              · have NY := Lib.hid (NX.out (by rw [SJ.out, decide_eq_false q1, decide_eq_false q2]; rfl))
                clear NX EJ SJ
                go_wp2_with fail
                refine (HJ.out _).mono ?_
                rintro e w1 ⟨rfl, rfl⟩
                go_wp2_with fail
                go_round
                case rel => exact ⟨j + 1, by omega, by go_num, NY.out⟩
                case measure => simp [intOf]; omega
        · obtain rfl : j = 640 := by omega
          have hvE := E4'.out (fun i hi => HA.out i hi)
          clear E3 E4' HA HI ST
          by_cases hr0 : r = 0
          · subst hr0
            have hv2 : v = true := by rw [hvE]; rfl
            subst hv2
            clear hvE
            go_wp2_with fail
            try rw [Exit.noGoto_ret]
            go_ret
            exact ⟨rfl, B0.out⟩
          · have hrb : (r == 0) = false := by simpa using hr0
            have hv2 : v = hr := by rw [hvE]; show (decide (r = 0) || hr) = hr; rw [decide_eq_false hr0]; rfl
            subst hv2
            clear hvE
            go_wp2_with fail
            refine (HR.out _).mono ?_
            rintro e w1 ⟨rfl, rfl⟩
            go_wp2_with fail
            try rw [Exit.noGoto_ret]
            go_ret
            exact ⟨rfl, B0.out⟩
    · have hvf := E2.out h2
      subst hvf
      obtain ⟨q, hq⟩ : ∃ q, g % 2 = q := ⟨_, rfl⟩
      rw [hq] at P2 h2
      have hqn : (q == n) = false := by simpa using h2
      clear E1 E2 E3 E4 PL
      go_enter Tryd.func60, Tryd.ntmps60
      go_wp2_with fail
      refine (P2.out _).mono ?_
      rintro e w1 ⟨rfl, rfl⟩
      go_wp2_with fail
      go_ret
      exact ⟨rfl, B0.out⟩
end Go.Proofs.YtbjmbndeaobbeaaDoor
