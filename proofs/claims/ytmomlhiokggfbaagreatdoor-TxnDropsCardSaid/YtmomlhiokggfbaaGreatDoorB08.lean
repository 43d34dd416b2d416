/-
 ShA.
-/
import Derived.Test.YtmomlhiokggfbaaGreatDoorB04
import Derived.Test.YtmomlhiokggfbaaGreatDoorB06
import Derived.Test.YtmomlhiokggfbaaGreatDoorB03
import Derived.Test.YtmomlhiokggfbaaGreatDoorB01
import Derived.Deep.DeepCutAuto
import Derived.Test.YtmomlhiokggfbaaGreatDoorB07
namespace Go.Proofs.YtmomlhiokggfbaaGreatDoor
open Go.RowKit
set_option linter.unusedVariables false
set_option linter.unusedSimpArgs false
set_option maxRecDepth 20000
set_option maxHeartbeats 12800000
set_option linter.unusedVariables false
set_option linter.unusedSimpArgs false
structure HdS where
  gen : Int
  root : Int
  used : ByteArray
def hdV (h : HdS) : Value := .agg #[.int .i64 h.gen, .int .i64 h.root, .string h.used]
def headT (h : HdS) : ByteArray := Str (putL h.gen 6) ++ Str (putL h.root 2) ++ h.used
theorem put_short (n : Int) (k : Int) (h1 : 1 ≤ k) (h8 : k ≤ 8) : (Str (putL n k)).size ≤ 8 := by
  unfold putL
  split
  · rw [Str_size, M.be_length]; omega
  · exact Nat.zero_le _
set_option maxHeartbeats 1600000 in
set_option maxRecDepth 20000 in
theorem place_is (g : Int) (w : World) (h0 : 0 ≤ g) (h1 : g ≤ 9223372036854775807) :
    Calls Tryz.prog 98 #[.int .i64 g] w fun e w' => e = .returned (.int .i64 (g % 2)) ∧ w = w' := by
  have ht : g.tmod 2 = g % 2 := Int.tmod_eq_emod_of_nonneg h0
  have hw : IntKind.i64.wrap (g % 2) = g % 2 := by rw [IntKind.wrap_i64]; omega
  obtain ⟨v, hv⟩ : ∃ v, g % 2 = v := ⟨_, rfl⟩
  rw [hv] at ht hw ⊢
  go_enter Tryz.func98, Tryz.ntmps98
  go_wp2_with fail
  go_ret
  exact ⟨rfl, rfl⟩
theorem zero_unit (w : World) : (zeroValue 183).run Tryz.prog w = .ok unitV w := by kernel_rfl
set_option maxHeartbeats 1600000 in
set_option maxRecDepth 20000 in
theorem pages_has (m : Nat) (L : List Int) (n : Int) (w : World) (h : SetI w m L) :
    Calls Tryz.prog 94 #[.map (some m), .int .i64 n] w fun e w' => e = .returned (.bool (decide (n ∈ L))) ∧ Below w.heap.size w w' := by
  have hl := lookupS (P := Tryz.prog) Tryz.underlying115 Tryz.underlying3 h n (zero_unit w)
  obtain ⟨b, hb⟩ : ∃ b, decide (n ∈ L) = b := ⟨_, rfl⟩
  rw [hb] at hl ⊢
  unfold unitV at hl
  clear h hb
  go_enter Tryz.func94, Tryz.ntmps94
  go_wp2_with fail
  go_ret
  exact ⟨rfl, by repeat' (first | exact Below.refl _ _ | refine Below.setCell ?_ (by simp) _ | refine Below.alloc ?_ (by simp) _)⟩
set_option maxHeartbeats 1600000 in
set_option maxRecDepth 20000 in
theorem text_is (h : HdS) (w : World) (g0 : 0 ≤ h.gen) (g1 : h.gen ≤ 9223372036854775807) (r0 : 0 ≤ h.root) (r1 : h.root ≤ 9223372036854775807) (hu : h.used.size ≤ 1000) :
    Calls Tryz.prog 99 #[hdV h] w fun e w' => e = .returned (.string (headT h)) ∧ Below w.heap.size w w' := by
  obtain ⟨g, r, u⟩ := h
  unfold hdV headT
  dsimp only at *
  have P1 := Lib.hid (fun w => put_any g 6 w g0)
  have P2 := Lib.hid (fun w => put_any r 2 w r0)
  have e1 : IntKind.u64.wrap g = g := by rw [IntKind.wrap_u64]; omega
  have e2 : IntKind.u64.wrap r = r := by rw [IntKind.wrap_u64]; omega
  have s1 := put_short g 6 (by decide) (by decide)
  have s2 := put_short r 2 (by decide) (by decide)
  generalize Str (putL g 6) = x at *
  generalize Str (putL r 2) = y at *
  generalize putE g 6 = q1 at *
  generalize putE r 2 = q2 at *
  have a1 : (9223372036854775807 < x.size + y.size) = False := by simp; omega
  have a2 : (9223372036854775807 < x.size + y.size + u.size) = False := by simp; omega
  have b0 : Below w.heap.size w (w.alloc (.cells #[.int .i64 g, .int .i64 r, .string u] 113)) := below_made _ _
  have X0 : (w.alloc (.cells #[.int .i64 g, .int .i64 r, .string u] 113)).heap[w.heap.size]? = some (.cells #[.int .i64 g, .int .i64 r, .string u] 113) := heap_alloc_new _ _
  have B0 := Lib.hid b0
  have XH := Lib.hid X0
  clear b0 X0 g0 r0 g1 r1
  go_enter Tryz.func99, Tryz.ntmps99
  go_wp2_with fail
  refine (P1.out _).mono ?_
  rintro e w1 ⟨rfl, b1⟩
  have X1 := kept XH.out b1
  have XH1 := Lib.hid X1
  have y1 : w1.cell? ⟨w.heap.size, 1, none⟩ = some (.int .i64 r) := by rw [Go.Joins.cell_of_block X1]; rfl
  have B1 := Lib.hid (chain B0.out b1)
  clear X1 b1 XH B0 P1
  go_wp2_with fail
  refine (P2.out _).mono ?_
  rintro e w2 ⟨rfl, b2⟩
  have X2 := kept XH1.out b2
  have y2 : w2.cell? ⟨w.heap.size, 2, none⟩ = some (.string u) := by rw [Go.Joins.cell_of_block X2]; rfl
  have B2 := Lib.hid (chain B1.out b2)
  clear X2 b2 XH1 B1 P2 y1
  go_wp2_with fail
  go_ret
  exact ⟨rfl, B2.out⟩
def parseH (s : ByteArray) : HdS := ⟨takeN s 6, takeN (takeR s 6) 2, takeR (takeR s 6) 2⟩
theorem take_rng (s : ByteArray) (k : Int) (h1 : 1 ≤ k) (h6 : k ≤ 6) : 0 ≤ takeN s k ∧ takeN s k ≤ 281474976710655 := by
  have h := pt_room s h1 (by omega)
  have h2 := putOk_lt h.2 h.1
  have h3 : 256 ^ k.toNat ≤ 256 ^ 6 := Nat.pow_le_pow_right (by decide) (by omega)
  have e : (256 : Nat) ^ 6 = 281474976710656 := by decide
  rw [e] at h3
  omega
set_option maxHeartbeats 1600000 in
set_option maxRecDepth 20000 in
theorem parse_is (s : ByteArray) (w : World) :
    Calls Tryz.prog 123 #[.string s] w fun e w' => e = .returned (hdV (parseH s)) ∧ Below w.heap.size w w' := by
  unfold parseH hdV
  dsimp only
  have T1 := Lib.hid (fun w => take_any s 6 w)
  have T2 := Lib.hid (fun w => take_any (takeR s 6) 2 w)
  have g1 := take_rng s 6 (by decide) (by decide)
  have g2 := take_rng (takeR s 6) 2 (by decide) (by decide)
  generalize takeN (takeR s 6) 2 = r at *
  generalize takeR (takeR s 6) 2 = u at *
  generalize takeE (takeR s 6) 2 = q2 at *
  generalize takeN s 6 = g at *
  generalize takeR s 6 = x at *
  generalize takeE s 6 = q1 at *
  have e1 : IntKind.i64.wrap g = g := by rw [IntKind.wrap_i64]; omega
  have e2 : IntKind.i64.wrap r = r := by rw [IntKind.wrap_i64]; omega
  have X0 : (w.alloc (.cells #[.int .i64 0, .int .i64 0, .string ⟨#[]⟩] 113)).heap[w.heap.size]? = some (.cells #[.int .i64 0, .int .i64 0, .string ⟨#[]⟩] 113) := heap_alloc_new _ _
  have B0 := Lib.hid (below_made w (.cells #[.int .i64 0, .int .i64 0, .string ⟨#[]⟩] 113))
  have XH := Lib.hid X0
  clear X0 g1 g2
  go_enter Tryz.func123, Tryz.ntmps123
  go_wp2_with fail
  refine (T1.out _).mono ?_
  rintro e w1 ⟨rfl, b1⟩
  have XH1 := Lib.hid (kept XH.out b1)
  have B1 := Lib.hid (chain B0.out b1)
  clear b1 XH B0 T1
  go_wp2_with fail
  refine (T2.out _).mono ?_
  rintro e w2 ⟨rfl, b2⟩
  have X2 := kept XH1.out b2
  have B2 := Lib.hid (chain B1.out b2)
  have y0 : w2.cell? ⟨w.heap.size, 0, none⟩ = some (.int .i64 0) := by rw [Go.Joins.cell_of_block X2]; rfl
  have y1 : w2.cell? ⟨w.heap.size, 1, none⟩ = some (.int .i64 0) := by rw [Go.Joins.cell_of_block X2]; rfl
  have y2 : w2.cell? ⟨w.heap.size, 2, none⟩ = some (.string ⟨#[]⟩) := by rw [Go.Joins.cell_of_block X2]; rfl
  have f0 := Go.Joins.unfrozen_of_block X2 0
  have f1 := Go.Joins.unfrozen_of_block X2 1
  have f2 := Go.Joins.unfrozen_of_block X2 2
  have XR : (((w2.setCell ⟨w.heap.size, 0, none⟩ (.int .i64 g)).setCell ⟨w.heap.size, 1, none⟩ (.int .i64 r)).setCell ⟨w.heap.size, 2, none⟩ (.string u)).heap[w.heap.size]? = some (.cells #[.int .i64 g, .int .i64 r, .string u] 113) := by
    rw [heap_setCell_same _ _ 2 _ _ _ (heap_setCell_same _ _ 1 _ _ _ (heap_setCell_same _ _ 0 _ _ _ X2))]
    rfl
  have Z0 : Hid ((((w2.setCell ⟨w.heap.size, 0, none⟩ (.int .i64 g)).setCell ⟨w.heap.size, 1, none⟩ (.int .i64 r)).setCell ⟨w.heap.size, 2, none⟩ (.string u)).cell? ⟨w.heap.size, 0, none⟩ = some (.int .i64 g)) := Lib.hid (by rw [Go.Joins.cell_of_block XR]; rfl)
  have Z1 : Hid ((((w2.setCell ⟨w.heap.size, 0, none⟩ (.int .i64 g)).setCell ⟨w.heap.size, 1, none⟩ (.int .i64 r)).setCell ⟨w.heap.size, 2, none⟩ (.string u)).cell? ⟨w.heap.size, 1, none⟩ = some (.int .i64 r)) := Lib.hid (by rw [Go.Joins.cell_of_block XR]; rfl)
  have Z2 : Hid ((((w2.setCell ⟨w.heap.size, 0, none⟩ (.int .i64 g)).setCell ⟨w.heap.size, 1, none⟩ (.int .i64 r)).setCell ⟨w.heap.size, 2, none⟩ (.string u)).cell? ⟨w.heap.size, 2, none⟩ = some (.string u)) := Lib.hid (by rw [Go.Joins.cell_of_block XR]; rfl)
  have FIN : Hid (Below w.heap.size w (((w2.setCell ⟨w.heap.size, 0, none⟩ (.int .i64 g)).setCell ⟨w.heap.size, 1, none⟩ (.int .i64 r)).setCell ⟨w.heap.size, 2, none⟩ (.string u))) := Lib.hid (((B2.out.setCell (Nat.le_refl _) _).setCell (Nat.le_refl _) _).setCell (Nat.le_refl _) _)
  clear X2 XR b2 XH1 B1 T2
  go_wp2_with fail
  exact bodyPost_ret (v := .agg #[.int .i64 g, .int .i64 r, .string u]) (by simp [results, Tryz.results123, go_sem, Z0.out, Z1.out, Z2.out]) rfl ⟨rfl, FIN.out⟩
def strayB (h : HdS) (size : Int) (i : Nat) : Bool := hasB h.used (i : Int) && (decide ((i : Int) < 2) || decide (size ≤ (i : Int)))
def countsB (h : HdS) (n size : Int) : Bool :=
  decide (1 ≤ h.gen) && decide (h.gen % 2 = n) && ((List.range 640).all fun i => !strayB h size i) && (decide (h.root = 0) || hasB h.used h.root)
end Go.Proofs.YtmomlhiokggfbaaGreatDoor
namespace Go.Proofs.YtmomlhiokggfbaaGreatDoor
open Go.RowKit
set_option linter.unusedVariables false
set_option linter.unusedSimpArgs false
theorem counts_1 {h : HdS} {n size : Int} (h1 : ¬ 1 ≤ h.gen) : countsB h n size = false := by unfold countsB; rw [decide_eq_false h1]; rfl
theorem counts_2 {h : HdS} {n size : Int} (h1 : ¬ h.gen % 2 = n) : countsB h n size = false := by unfold countsB; rw [decide_eq_false h1]; simp
theorem counts_3 {h : HdS} {n size : Int} (i : Nat) (hi : i < 640) (h1 : strayB h size i = true) : countsB h n size = false := by
  unfold countsB
  have : ((List.range 640).all fun i => !strayB h size i) = false := by
    rw [List.all_eq_false]
    exact ⟨i, List.mem_range.2 hi, by rw [h1]; decide⟩
  rw [this]; simp
theorem counts_4 {h : HdS} {n size : Int} (h1 : 1 ≤ h.gen) (h2 : h.gen % 2 = n) (h3 : ∀ i, i < 640 → strayB h size i = false) : countsB h n size = (decide (h.root = 0) || hasB h.used h.root) := by
  unfold countsB
  have : ((List.range 640).all fun i => !strayB h size i) = true := by
    rw [List.all_eq_true]
    intro i hi
    rw [h3 i (List.mem_range.1 hi)]; rfl
  rw [this, decide_eq_true h1, decide_eq_true h2]; rfl
set_option maxHeartbeats 3200000 in
set_option maxRecDepth 20000 in
theorem counts_is (h : HdS) (n size : Int) (w : World) (g0 : -9223372036854775808 ≤ h.gen) (g1 : h.gen ≤ 9223372036854775807) (r1 : h.root ≤ 9223372036854775807) (v : Bool) (hv : Hid (countsB h n size = v)) :
    Calls Tryz.prog 124 #[hdV h, .int .i64 n, .int .i64 size] w fun e w' => e = .returned (.bool v) ∧ Below w.heap.size w w' := by
  have PL := Lib.hid (fun (hg : 0 ≤ h.gen) w => place_is h.gen w hg g1)
  have HI := Lib.hid (fun (i : Nat) (hi : i < 640) w => has_any h.used (i : Int) w (by omega))
  have HR := Lib.hid (fun w => has_any h.used h.root w (by omega))
  have E1 := Lib.hid (fun q => hv.out.symm.trans (counts_1 (h := h) (n := n) (size := size) q))
  have E2 := Lib.hid (fun q => hv.out.symm.trans (counts_2 (h := h) (n := n) (size := size) q))
  have E3 := Lib.hid (fun i hi q => hv.out.symm.trans (counts_3 (h := h) (n := n) (size := size) i hi q))
  have E4 := Lib.hid (fun q1 q2 q3 => hv.out.symm.trans (counts_4 (h := h) (n := n) (size := size) q1 q2 q3))
  have ST := Lib.hid (fun i => show strayB h size i = (hasB h.used (i : Int) && (decide ((i : Int) < 2) || decide (size ≤ (i : Int)))) from rfl)
  clear hv
  obtain ⟨g, r, u⟩ := h
  unfold hdV
  dsimp only at PL HI HR E1 E2 E3 E4 ST g0 g1 r1 ⊢
  have B0 := Lib.hid (below_made w (.cells #[.int .i64 g, .int .i64 r, .string u] 113))
  generalize hasB u r = hr at *
  by_cases h1 : g < 1
  · have hvf := E1.out (by omega)
    subst hvf
    go_enter Tryz.func124, Tryz.ntmps124
    go_wp2_with fail
    go_ret
    exact ⟨rfl, B0.out⟩
  · have P2 := Lib.hid (PL.out (by omega))
    by_cases h2 : g % 2 = n
    · have E4' := Lib.hid (E4.out (by omega) h2)
      rw [h2] at P2
      clear PL E1 E2 E4 h2
      go_enter Tryz.func124, Tryz.ntmps124
      go_wp2_with fail
      refine (P2.out _).mono ?_
      rintro e w1 ⟨rfl, rfl⟩
      go_wp2_with fail
      go_loop [18] (fun i => ∃ j : Nat, j ≤ 640 ∧ i = .int .i64 (j : Int) ∧ ∀ k, k < j → strayB ⟨g, r, u⟩ size k = false) (fun i => 641 - (intOf i).toNat)
      case atStart => exact ⟨0, Nat.zero_le _, rfl, fun k hk => absurd hk (Nat.not_lt_zero _)⟩
      case round =>
        obtain ⟨j, hj, rfl, hall⟩ := hrel
        have HA := Lib.hid hall
        clear hall
        by_cases hlt : j < 640
        · have hji : (j : Int) < 640 := by omega
          have HJ := Lib.hid (HI.out j hlt)
          have SJ := Lib.hid (ST.out j)
          have EJ := Lib.hid (E3.out j hlt)
          have NX : Hid (strayB ⟨g, r, u⟩ size j = false → ∀ k, k < j + 1 → strayB ⟨g, r, u⟩ size k = false) := Lib.hid (fun hs k hk => by
            by_cases he : k = j
            · subst he; exact hs
            · exact HA.out k (by omega))
          generalize hasB u (j : Int) = hbj at *
          clear E3 ST HA
          cases hbj
          · have NY := Lib.hid (NX.out (by rw [SJ.out]; rfl))
            clear NX EJ SJ
            go_wp2_with fail
            refine (HJ.out _).mono ?_
            rintro e w1 ⟨rfl, rfl⟩
            go_wp2_with fail
            go_round
            case rel => exact ⟨j + 1, by omega, by go_num, NY.out⟩
            case measure => simp [intOf]; omega
          · by_cases q1 : (j : Int) < 2
            · have hvf := EJ.out (by rw [SJ.out, decide_eq_true q1]; rfl)
              subst hvf
              clear NX EJ SJ
              go_wp2_with fail
              refine (HJ.out _).mono ?_
              rintro e w1 ⟨rfl, rfl⟩
              go_wp2_with fail
              try rw [Exit.noGoto_ret]
              go_ret
              exact ⟨rfl, B0.out⟩
            · by_cases q2 : size ≤ (j : Int)
              · have hvf := EJ.out (by rw [SJ.out, decide_eq_true q2]; simp)
                subst hvf
                clear NX EJ SJ
                go_wp2_with fail
                refine (HJ.out _).mono ?_
                rintro e w1 ⟨rfl, rfl⟩
                go_wp2_with fail
                try rw [Exit.noGoto_ret]
                go_ret
                exact ⟨rfl, B0.out⟩
              · have NY := Lib.hid (NX.out (by rw [SJ.out, decide_eq_false q1, decide_eq_false q2]; rfl))
                clear NX EJ SJ
                go_wp2_with fail
                refine (HJ.out _).mono ?_
                rintro e w1 ⟨rfl, rfl⟩
                go_wp2_with fail
                go_round
                case rel => exact ⟨j + 1, by omega, by go_num, NY.out⟩
                case measure => simp [intOf]; omega
        · obtain rfl : j = 640 := by omega
          have hvE := E4'.out (fun i hi => HA.out i hi)
          clear E3 E4' HA HI ST
          by_cases hr0 : r = 0
          · subst hr0
            have hv2 : v = true := by rw [hvE]; rfl
            subst hv2
            clear hvE
            go_wp2_with fail
            try rw [Exit.noGoto_ret]
            go_ret
            exact ⟨rfl, B0.out⟩
          · have hrb : (r == 0) = false := by simpa using hr0
            have hv2 : v = hr := by rw [hvE]; show (decide (r = 0) || hr) = hr; rw [decide_eq_false hr0]; rfl
            subst hv2
            clear hvE
            go_wp2_with fail
            refine (HR.out _).mono ?_
            rintro e w1 ⟨rfl, rfl⟩
            go_wp2_with fail
            try rw [Exit.noGoto_ret]
            go_ret
            exact ⟨rfl, B0.out⟩
    · have hvf := E2.out h2
      subst hvf
      obtain ⟨q, hq⟩ : ∃ q, g % 2 = q := ⟨_, rfl⟩
      rw [hq] at P2 h2
      have hqn : (q == n) = false := by simpa using h2
      clear E1 E2 E3 E4 PL
      go_enter Tryz.func124, Tryz.ntmps124
      go_wp2_with fail
      refine (P2.out _).mono ?_
      rintro e w1 ⟨rfl, rfl⟩
      go_wp2_with fail
      go_ret
      exact ⟨rfl, B0.out⟩
end Go.Proofs.YtmomlhiokggfbaaGreatDoor
namespace Go.Proofs.YtmomlhiokggfbaaGreatDoor
open Go.RowKit
set_option linter.unusedVariables false
set_option linter.unusedSimpArgs false
theorem sealB_iff (k : Int) (t : ByteArray) : sealB k t = true ↔ 1 ≤ k ∧ k ≤ 15 ∧ t.size ≤ 240 := by
  unfold sealB
  rw [Bool.and_eq_true, kindB_iff, decide_eq_true_eq, and_assoc]
theorem seal_any (k : Int) (t : ByteArray) (w : World) :
    Calls Tryz.prog 119 #[.int .i64 k, .string t] w fun e w' => e = .returned (.tuple #[.string (sealS k t), .int .i64 (sealE k t)]) ∧ Below w.heap.size w w' := by
  cases h : sealB k t
  · refine (seal_no k t w h).mono ?_
    rintro e w' ⟨rfl, rfl⟩
    exact ⟨by unfold sealS sealE; rw [h]; rfl, Below.refl _ _⟩
  · obtain ⟨h1, h2, h3⟩ := (sealB_iff k t).1 h
    obtain ⟨n, rfl⟩ := Int.eq_ofNat_of_zero_le (show 0 ≤ k by omega)
    refine (seal_yes n t w (by omega) (by omega) h3 _ (Lib.hid rfl)).mono ?_
    rintro e w' ⟨rfl, hb⟩
    exact ⟨by unfold sealS sealE; rw [h]; rfl, hb⟩
def pgWr (st : DkS) (n k : Int) (t : ByteArray) : DkS × Int := if sealB k t = true then st.write n (sealS k t).data.toList else (st, 1)
def rdK (st : DkS) (n : Int) : Int := if (st.read n).2 = 0 then (opK (st.read n).1 : Int) else 0
def rdT (st : DkS) (n : Int) : ByteArray := if (st.read n).2 = 0 then Str (opT (st.read n).1) else ⟨#[]⟩
def rdE (st : DkS) (n : Int) : Int := if (st.read n).2 = 0 then (opE (st.read n).1 : Int) else (st.read n).2
theorem DkPost.chain {w w1 w2 : World} {d : Nat} {st : DkS} {F : Nat → Prop} (b : Below w.heap.size w w1) (h : DkPost w1 d st F w2) : DkPost w d st F w2 :=
  DkPost.trans (st1 := st) (Frm.of_below b) (fun k hk => .inl hk) h
set_option maxHeartbeats 400000 in
theorem dsize_is (w : World) (d : Nat) (st : DkS) (F : Nat → Prop) (h : Dk w d st F) :
    Calls Tryz.prog 92 #[.pointer (some ⟨d, 0, none⟩)] w fun e w' => e = .returned (.int .i64 (st.S.length : Int)) ∧ w = w' := by
  obtain ⟨g, m, lv, hi, he⟩ := h
  obtain ⟨c0, _, _, _, _⟩ := hi.cells
  clear he hi
  go_enter Tryz.func92, Tryz.ntmps92
  go_wp2_with fail
  go_ret
  exact ⟨rfl, rfl⟩
set_option maxHeartbeats 800000 in
set_option maxRecDepth 20000 in
theorem pageWrite_is (w : World) (d : Nat) (st : DkS) (F : Nat → Prop) (h : Dk w d st F) (n k : Int) (t : ByteArray) :
    Calls Tryz.prog 97 #[.pointer (some ⟨d, 0, none⟩), .int .i64 n, .int .i64 k, .string t] w fun e w' => e = .returned (.int .i64 (pgWr st n k t).2) ∧ DkPost w d (pgWr st n k t).1 F w' := by
  have HP := Lib.hid h
  have S1 := Lib.hid (fun w => seal_any k t w)
  unfold pgWr
  unfold sealE at S1
  clear h
  cases hb : sealB k t
  · rw [hb] at S1
    rw [if_neg (by decide)]
    have S2 := Lib.hid (fun w => S1.out w)
    rw [if_neg (by decide)] at S2
    generalize sealS k t = S at S1 S2
    clear S1 hb
    go_enter Tryz.func97, Tryz.ntmps97
    go_wp2_with fail
    refine (S2.out _).mono ?_
    rintro e w1 ⟨rfl, b1⟩
    have HP1 := Lib.hid (DkPost.below HP.out b1)
    clear b1
    go_wp2_with fail
    go_ret
    exact ⟨rfl, HP1.out⟩
  · rw [hb] at S1
    rw [if_pos rfl]
    have S2 := Lib.hid (fun w => S1.out w)
    rw [if_pos rfl] at S2
    generalize sealS k t = S at S1 S2
    clear S1 hb
    go_enter Tryz.func97, Tryz.ntmps97
    go_wp2_with fail
    refine (S2.out _).mono ?_
    rintro e w1 ⟨rfl, b1⟩
    have HP1 := Lib.hid (HP.out.below b1)
    have B1 := Lib.hid b1
    clear b1
    go_wp2_with fail
    refine (write_any w1 d st F HP1.out n S).mono ?_
    rintro e w2 ⟨rfl, h2⟩
    have HP2 := Lib.hid (DkPost.chain B1.out h2)
    clear h2
    go_wp2_with fail
    go_ret
    exact ⟨rfl, HP2.out⟩
set_option maxHeartbeats 800000 in
set_option maxRecDepth 20000 in
theorem pageRead_is (w : World) (d : Nat) (st : DkS) (F : Nat → Prop) (h : Dk w d st F) (n : Int) :
    Calls Tryz.prog 122 #[.pointer (some ⟨d, 0, none⟩), .int .i64 n] w fun e w' => e = .returned (.tuple #[.int .i64 (rdK st n), .string (rdT st n), .int .i64 (rdE st n)]) ∧ Below w.heap.size w w' := by
  have R1 := Lib.hid (read_any w d st F h n)
  have O1 := Lib.hid (fun w => open_any (Str (st.read n).1) w)
  rw [Str_list] at O1
  unfold rdK rdT rdE
  clear h
  generalize Str (st.read n).1 = b at R1 O1
  generalize (st.read n).1 = l at O1 ⊢
  generalize (st.read n).2 = e0 at R1 ⊢
  by_cases h0 : e0 = 0
  · subst h0
    rw [if_pos rfl, if_pos rfl, if_pos rfl]
    generalize (opK l : Int) = K at O1 ⊢
    generalize Str (opT l) = T at O1 ⊢
    generalize (opE l : Int) = E at O1 ⊢
    go_enter Tryz.func122, Tryz.ntmps122
    go_wp2_with fail
    refine R1.out.mono ?_
    rintro e w1 ⟨rfl, rfl⟩
    go_wp2_with fail
    refine (O1.out _).mono ?_
    rintro e w2 ⟨rfl, b2⟩
    have HP2 := Lib.hid b2
    clear b2
    go_wp2_with fail
    go_ret3
    exact ⟨rfl, HP2.out⟩
  · rw [if_neg h0, if_neg h0, if_neg h0]
    have h1 : (e0 == 0) = false := by simpa using h0
    have h2 : (e0 != 0) = true := by simp [bne, h1]
    clear O1
    go_enter Tryz.func122, Tryz.ntmps122
    go_wp2_with fail
    refine R1.out.mono ?_
    rintro e w1 ⟨rfl, rfl⟩
    go_wp2_with fail
    go_ret3
    exact ⟨rfl, Below.refl _ _⟩
end Go.Proofs.YtmomlhiokggfbaaGreatDoor
