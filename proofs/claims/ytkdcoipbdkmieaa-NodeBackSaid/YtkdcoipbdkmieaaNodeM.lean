/-
  Packages bailiwickref10, bailiwicklaw10: Same, ref and nodes, of two nodes that are the same.
-/
import Derived.Test.YtkdcoipbdkmieaaNodeH
import Derived.Test.YtkdcoipbdkmieaaHeld
import Derived.Deep.DeepCutAuto
namespace Go.Proofs.Ytkdcoipbdkmieaa
open Go.RowKit
set_option linter.unusedVariables false
set_option linter.unusedSimpArgs false
theorem drewN_drewN (w : World) (a b : Nat) : (w.drewN a).drewN b = w.drewN (a + b) := by simp [World.drewN, Nat.add_assoc]
set_option maxHeartbeats 3200000 in
set_option maxRecDepth 20000 in
theorem same_yes (n : Nod) (ak av ac bk bv bc : Option Addr) (ck cv cc dk dv dc : Nat) (w : World) (hA : NodR w n ak av ac ck cv cc) (hB : NodR w n bk bv bc dk dv dc) :
    Calls Try.prog 38 #[nodV n ak av ac ck cv cc, nodV n bk bv bc dk dv dc] w fun e w' => e = .returned (.bool true) ∧ Below w.heap.size w w' := by
  obtain ⟨lf, K, V, C⟩ := n
  have k1 : K.length ≤ 1000 := hA.ok.k1
  have v1 : V.length ≤ 1000 := hA.ok.v1
  have c1 : C.length ≤ 1000 := hA.ok.c1
  unfold nodV
  dsimp only
  obtain ⟨lk, hlk⟩ : ∃ lk, K.length = lk := ⟨_, rfl⟩
  obtain ⟨lv, hlv⟩ : ∃ lv, V.length = lv := ⟨_, rfl⟩
  obtain ⟨lc, hlc⟩ : ∃ lc, C.length = lc := ⟨_, rfl⟩
  rw [hlk, hlv, hlc]
  rw [hlk] at k1
  rw [hlv] at v1
  rw [hlc] at c1
  obtain ⟨W, hW⟩ : ∃ W, (w.alloc (.cells #[.bool lf, .slice ak lk ck, .slice av lv cv, .slice ac lc cc] 36)).alloc (.cells #[.bool lf, .slice bk lk dk, .slice bv lv dv, .slice bc lc dc] 36) = W := ⟨_, rfl⟩
  have bel : Below w.heap.size w W := by rw [← hW]; exact ((Below.refl _ _).alloc (Nat.le_refl _) _).alloc (by simp) _
  have XA : W.heap[w.heap.size]? = some (.cells #[.bool lf, .slice ak lk ck, .slice av lv cv, .slice ac lc cc] 36) := by rw [← hW]; exact (heap_alloc_old _ _ (by simp)).trans (heap_alloc_new w _)
  have XB : W.heap[w.heap.size + 1]? = some (.cells #[.bool lf, .slice bk lk dk, .slice bv lv dv, .slice bc lc dc] 36) := by
    rw [← hW, ← show (w.alloc (.cells #[.bool lf, .slice ak lk ck, .slice av lv cv, .slice ac lc cc] 36)).heap.size = w.heap.size + 1 from by simp]; exact heap_alloc_new _ _
  have x0 : W.cell? ⟨w.heap.size, 0, none⟩ = some (.bool lf) := by rw [Go.Joins.cell_of_block XA]; rfl
  have x1 : W.cell? ⟨w.heap.size, 1, none⟩ = some (.slice ak lk ck) := by rw [Go.Joins.cell_of_block XA]; rfl
  have x2 : W.cell? ⟨w.heap.size, 2, none⟩ = some (.slice av lv cv) := by rw [Go.Joins.cell_of_block XA]; rfl
  have x3 : W.cell? ⟨w.heap.size, 3, none⟩ = some (.slice ac lc cc) := by rw [Go.Joins.cell_of_block XA]; rfl
  have y0 : W.cell? ⟨w.heap.size + 1, 0, none⟩ = some (.bool lf) := by rw [Go.Joins.cell_of_block XB]; rfl
  have y1 : W.cell? ⟨w.heap.size + 1, 1, none⟩ = some (.slice bk lk dk) := by rw [Go.Joins.cell_of_block XB]; rfl
  have y2 : W.cell? ⟨w.heap.size + 1, 2, none⟩ = some (.slice bv lv dv) := by rw [Go.Joins.cell_of_block XB]; rfl
  have y3 : W.cell? ⟨w.heap.size + 1, 3, none⟩ = some (.slice bc lc dc) := by rw [Go.Joins.cell_of_block XB]; rfl
  have AK := Lib.hid (hA.k.below bel)
  have AV := Lib.hid (hA.v.below bel)
  have AC := Lib.hid (hA.c.below bel)
  have BK := Lib.hid (hB.k.below bel)
  have BV := Lib.hid (hB.v.below bel)
  have BC := Lib.hid (hB.c.below bel)
  have BEL := Lib.hid bel
  have HW := Lib.hid hW
  clear hA hB bel XA XB hW
  go_enter Try.func38, Try.ntmps38
  go_upto_region 1 with fail
  rw [HW.out]
  cases lf
  all_goals
    go_wp2_with fail
    go_loopw [5] (fun i wr => ∃ j q : Nat, j ≤ lk ∧ i = .int .i64 (j : Int) ∧ wr = W.drewN q) (fun i _ => lk + 1 - (intOf i).toNat)
    case atStart => exact ⟨0, 0, Nat.zero_le _, rfl, rfl⟩
    case round =>
      obtain ⟨j, q, hj, rfl, rfl⟩ := hrel
      by_cases hlt : j < lk
      · have hji : (j : Int) < (lk : Int) := by omega
        have hjl : j < (K.map ukey).length := by rw [List.length_map]; omega
        obtain ⟨b1, o1, rfl, hb1, z1⟩ := AK.out.at j hjl
        obtain ⟨b2, o2, rfl, hb2, z2⟩ := BK.out.at j hjl
        have hx : (K.map ukey)[j] = .int .u64 (K[j]'(by omega)) := by first | (rw [List.getElem_map]; rfl) | rw [List.getElem_map]
        rw [hx] at z1 z2
        clear hx hb1 hb2
        generalize K[j]'(by omega) = x at *
        go_wp2_with fail
        go_quiet (fail)
        go_wp2_with fail
        go_roundw
        case rel => exact ⟨j + 1, _, by omega, by go_num, rfl⟩
        case measure => simp [intOf]; omega
      · obtain rfl : j = lk := by omega
        have hji : ¬ (j : Int) < (j : Int) := by omega
        go_wp2_with fail
        go_loopw [6] (fun i wr => ∃ j q : Nat, j ≤ lv ∧ i = .int .i64 (j : Int) ∧ wr = W.drewN q) (fun i _ => lv + 1 - (intOf i).toNat)
        case atStart => exact ⟨0, _, Nat.zero_le _, rfl, rfl⟩
        case round =>
          obtain ⟨j, q, hj, rfl, rfl⟩ := hrel
          by_cases hlt : j < lv
          · have hji : (j : Int) < (lv : Int) := by omega
            have hjl : j < (V.map Value.string).length := by rw [List.length_map]; omega
            obtain ⟨b1, o1, rfl, hb1, z1⟩ := AV.out.at j hjl
            obtain ⟨b2, o2, rfl, hb2, z2⟩ := BV.out.at j hjl
            have hx : (V.map Value.string)[j] = .string (V[j]'(by omega)) := by first | (rw [List.getElem_map]; rfl) | rw [List.getElem_map]
            rw [hx] at z1 z2
            clear hx hb1 hb2
            generalize V[j]'(by omega) = x at *
            go_wp2_with fail
            go_quiet (fail)
            go_wp2_with fail
            go_roundw
            case rel => exact ⟨j + 1, _, by omega, by go_num, rfl⟩
            case measure => simp [intOf]; omega
          · obtain rfl : j = lv := by omega
            have hji : ¬ (j : Int) < (j : Int) := by omega
            go_wp2_with fail
            go_loopw [7] (fun i wr => ∃ j q : Nat, j ≤ lc ∧ i = .int .i64 (j : Int) ∧ wr = W.drewN q) (fun i _ => lc + 1 - (intOf i).toNat)
            case atStart => exact ⟨0, _, Nat.zero_le _, rfl, rfl⟩
            case round =>
              obtain ⟨j, q, hj, rfl, rfl⟩ := hrel
              by_cases hlt : j < lc
              · have hji : (j : Int) < (lc : Int) := by omega
                have hjl : j < (C.map ikid).length := by rw [List.length_map]; omega
                obtain ⟨b1, o1, rfl, hb1, z1⟩ := AC.out.at j hjl
                obtain ⟨b2, o2, rfl, hb2, z2⟩ := BC.out.at j hjl
                have hx : (C.map ikid)[j] = .int .i64 (C[j]'(by omega)) := by first | (rw [List.getElem_map]; rfl) | rw [List.getElem_map]
                rw [hx] at z1 z2
                clear hx hb1 hb2
                generalize C[j]'(by omega) = x at *
                go_wp2_with fail
                go_quiet (fail)
                go_wp2_with fail
                go_roundw
                case rel => exact ⟨j + 1, _, by omega, by go_num, rfl⟩
                case measure => simp [intOf]; omega
              · obtain rfl : j = lc := by omega
                have hji : ¬ (j : Int) < (j : Int) := by omega
                go_wp2_with fail
                go_ret
                exact ⟨rfl, drewN_below BEL.out _⟩
end Go.Proofs.Ytkdcoipbdkmieaa
