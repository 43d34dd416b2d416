/-
  Package shadow: the head of a sector, the head that counts, a head that is written, a store that is opened.
-/
import Derived.Test.YtbjmbndeaobbeaaDoorShCounts
import Derived.Test.YtbjmbndeaobbeaaDoorPgDk
import Derived.Test.YtbjmbndeaobbeaaDoorHeld
namespace Go.Proofs.YtbjmbndeaobbeaaDoor
open Go.RowKit
set_option linter.unusedVariables false
set_option linter.unusedSimpArgs false
def zeroH : HdS := ⟨0, 0, ⟨#[]⟩⟩
def rdHead (st : DkS) (n : Int) : HdS × Bool :=
  if rdE st n = 0 ∧ rdK st n = 1 ∧ (rdT st n).size = 88 then (parseH (rdT st n), countsB (parseH (rdT st n)) n (st.S.length : Int)) else (zeroH, false)
set_option maxHeartbeats 3200000 in
set_option maxRecDepth 20000 in
theorem readHead_no (w : World) (d : Nat) (st : DkS) (F : Nat → Prop) (h : Dk w d st F) (n : Int) (hc : ¬ (rdE st n = 0 ∧ rdK st n = 1 ∧ (rdT st n).size = 88)) :
    Calls Tryd.prog 49 #[.pointer (some ⟨d, 0, none⟩), .int .i64 n] w fun e w' => e = .returned (.tuple #[hdV zeroH, .bool false]) ∧ Below w.heap.size w w' := by
  unfold hdV zeroH
  dsimp only
  have b0 : Below w.heap.size w (w.alloc (.cells #[.int .i64 0, .int .i64 0, .string ⟨#[]⟩] 54)) := below_made _ _
  have RD := Lib.hid (pageRead_is _ d st F (h.below b0) n)
  have XH := Lib.hid (heap_alloc_new w (.cells #[.int .i64 0, .int .i64 0, .string ⟨#[]⟩] 54))
  have B0 := Lib.hid b0
  generalize rdE st n = q at *
  generalize rdK st n = k at *
  generalize rdT st n = t at *
  have hcase : ((q == 0) = false ∧ (q != 0) = true) ∨ (q = 0 ∧ (((k == 1) = false ∧ (k != 1) = true) ∨ (k = 1 ∧ ((t.size : Int) == 88) = false ∧ ((t.size : Int) != 88) = true))) := by
    by_cases e0 : q = 0
    · refine .inr ⟨e0, ?_⟩
      by_cases e1 : k = 1
      · refine .inr ⟨e1, ?_⟩
        have : ¬ (t.size : Int) = 88 := fun e => hc ⟨e0, e1, by omega⟩
        exact ⟨by simpa using this, by simpa using this⟩
      · exact .inl ⟨by simpa using e1, by simpa using e1⟩
    · exact .inl ⟨by simpa using e0, by simpa using e0⟩
  clear h b0 hc
  rcases hcase with ⟨e0, e0'⟩ | ⟨rfl, ⟨e1, e1'⟩ | ⟨rfl, e2, e2'⟩⟩
  all_goals
    go_enter Tryd.func49, Tryd.ntmps49
    go_wp2_with fail
    refine RD.out.mono ?_
    rintro e w1 ⟨rfl, b1⟩
    have X1 := kept XH.out b1
    have B1 := Lib.hid (chain B0.out b1)
    clear b1
    have g0 : w1.cell? ⟨w.heap.size, 0, none⟩ = some (.int .i64 0) := by rw [Go.Joins.cell_of_block X1]; rfl
    have g1 : w1.cell? ⟨w.heap.size, 1, none⟩ = some (.int .i64 0) := by rw [Go.Joins.cell_of_block X1]; rfl
    have g2 : w1.cell? ⟨w.heap.size, 2, none⟩ = some (.string ⟨#[]⟩) := by rw [Go.Joins.cell_of_block X1]; rfl
    have k0 := Go.Joins.unfrozen_of_block X1 0
    have k1 := Go.Joins.unfrozen_of_block X1 1
    have k2 := Go.Joins.unfrozen_of_block X1 2
    have XR : (((w1.setCell ⟨w.heap.size, 0, none⟩ (.int .i64 0)).setCell ⟨w.heap.size, 1, none⟩ (.int .i64 0)).setCell ⟨w.heap.size, 2, none⟩ (.string ⟨#[]⟩)).heap[w.heap.size]? = some (.cells #[.int .i64 0, .int .i64 0, .string ⟨#[]⟩] 54) := by
      rw [heap_setCell_same _ _ 2 _ _ _ (heap_setCell_same _ _ 1 _ _ _ (heap_setCell_same _ _ 0 _ _ _ X1))]
      rfl
    have Z0 : Hid ((((w1.setCell ⟨w.heap.size, 0, none⟩ (.int .i64 0)).setCell ⟨w.heap.size, 1, none⟩ (.int .i64 0)).setCell ⟨w.heap.size, 2, none⟩ (.string ⟨#[]⟩)).cell? ⟨w.heap.size, 0, none⟩ = some (.int .i64 0)) := Lib.hid (by rw [Go.Joins.cell_of_block XR]; rfl)
    have Z1 : Hid ((((w1.setCell ⟨w.heap.size, 0, none⟩ (.int .i64 0)).setCell ⟨w.heap.size, 1, none⟩ (.int .i64 0)).setCell ⟨w.heap.size, 2, none⟩ (.string ⟨#[]⟩)).cell? ⟨w.heap.size, 1, none⟩ = some (.int .i64 0)) := Lib.hid (by rw [Go.Joins.cell_of_block XR]; rfl)
    have Z2 : Hid ((((w1.setCell ⟨w.heap.size, 0, none⟩ (.int .i64 0)).setCell ⟨w.heap.size, 1, none⟩ (.int .i64 0)).setCell ⟨w.heap.size, 2, none⟩ (.string ⟨#[]⟩)).cell? ⟨w.heap.size, 2, none⟩ = some (.string ⟨#[]⟩)) := Lib.hid (by rw [Go.Joins.cell_of_block XR]; rfl)
    have FIN : Hid (Below w.heap.size w (((w1.setCell ⟨w.heap.size, 0, none⟩ (.int .i64 0)).setCell ⟨w.heap.size, 1, none⟩ (.int .i64 0)).setCell ⟨w.heap.size, 2, none⟩ (.string ⟨#[]⟩))) := Lib.hid (((B1.out.setCell (Nat.le_refl _) _).setCell (Nat.le_refl _) _).setCell (Nat.le_refl _) _)
    clear XR X1
    go_wp2_with fail
    exact bodyPost_ret (v := .tuple #[.agg #[.int .i64 0, .int .i64 0, .string ⟨#[]⟩], .bool false]) (by simp [results, Tryd.results49, go_sem, Z0.out, Z1.out, Z2.out]) rfl ⟨rfl, FIN.out⟩
set_option maxHeartbeats 3200000 in
set_option maxRecDepth 20000 in
theorem readHead_yes (w : World) (d : Nat) (st : DkS) (F : Nat → Prop) (h : Dk w d st F) (n : Int) (h0 : rdE st n = 0) (h1 : rdK st n = 1) (h2 : (rdT st n).size = 88) :
    Calls Tryd.prog 49 #[.pointer (some ⟨d, 0, none⟩), .int .i64 n] w fun e w' => e = .returned (.tuple #[hdV (parseH (rdT st n)), .bool (countsB (parseH (rdT st n)) n (st.S.length : Int))]) ∧ Below w.heap.size w w' := by
  have b0 : Below w.heap.size w (w.alloc (.cells #[.int .i64 0, .int .i64 0, .string ⟨#[]⟩] 54)) := below_made _ _
  have RD := Lib.hid (pageRead_is _ d st F (h.below b0) n)
  rw [h0, h1] at RD
  have XH := Lib.hid (heap_alloc_new w (.cells #[.int .i64 0, .int .i64 0, .string ⟨#[]⟩] 54))
  have B0 := Lib.hid b0
  have PA := Lib.hid (fun w => parse_is (rdT st n) w)
  have SZ := Lib.hid (fun w' (hb : Below w.heap.size w w') => dsize_is w' d st F (h.below hb))
  have g1 := take_rng (rdT st n) 6 (by decide) (by decide)
  have g2 := take_rng (takeR (rdT st n) 6) 2 (by decide) (by decide)
  obtain ⟨c, hcc⟩ : ∃ c, countsB (parseH (rdT st n)) n (st.S.length : Int) = c := ⟨_, rfl⟩
  have CT := Lib.hid (fun w => counts_is (parseH (rdT st n)) n (st.S.length : Int) w (by show _ ≤ takeN _ _; omega) (by show takeN _ _ ≤ _; omega) (by show takeN _ _ ≤ _; omega) c (Lib.hid hcc))
  rw [hcc]
  unfold hdV at *
  generalize parseH (rdT st n) = H at *
  generalize rdT st n = t at *
  obtain ⟨g, r, u⟩ := H
  dsimp only at *
  have h2i : (t.size : Int) = 88 := by omega
  generalize (st.S.length : Int) = z at *
  clear h b0 hcc h0 h1 h2 g1 g2
  go_enter Tryd.func49, Tryd.ntmps49
  go_wp2_with fail
  refine RD.out.mono ?_
  rintro e w1 ⟨rfl, b1⟩
  have X1 := Lib.hid (kept XH.out b1)
  have B1 := Lib.hid (chain B0.out b1)
  clear b1 RD XH B0
  go_wp2_with fail
  refine (PA.out _).mono ?_
  rintro e w2 ⟨rfl, b2⟩
  have X2 := Lib.hid (kept X1.out b2)
  have B2 := Lib.hid (chain B1.out b2)
  clear b2 X1 B1 PA
  have X2l := (Array.getElem?_eq_some_iff.1 X2.out).1
  go_upto_region 5 with fail
  obtain ⟨w3, hw3⟩ : ∃ w3, w2.alloc (.cells #[.int .i64 g, .int .i64 r, .string u] 54) = w3 := ⟨_, rfl⟩
  rw [hw3]
  have b3 : Below w2.heap.size w2 w3 := by rw [← hw3]; exact below_made _ _
  have Y3 := Lib.hid (show w3.heap[w2.heap.size]? = some (.cells #[.int .i64 g, .int .i64 r, .string u] 54) from by rw [← hw3]; exact heap_alloc_new _ _)
  have X3 := Lib.hid (kept X2.out b3)
  have B3 := Lib.hid (chain B2.out b3)
  clear b3 hw3 X2 B2
  have hl3 : w2.heap.size < w3.heap.size := (Array.getElem?_eq_some_iff.1 Y3.out).1
  have hn3 : ¬ w2.heap.size = w.heap.size := by have := (Array.getElem?_eq_some_iff.1 X3.out).1; have := B3.out.size; have := X2l; omega
  refine wp_region_held_drew (S := fun w' => Frm (fun k => k = w.heap.size) w3 w') (by kernel_rfl) ((Frm.refl (fun k => k = w.heap.size) w3).drew) (fun hS => ?_)
  refine held_take (i := 0) 31 (v := ?va0x1) rfl rfl (by kernel_rfl) (by kernel_rfl) (by kernel_rfl) (fun _ _ _ h => h) hS (by rfl) ?ha0x1 ?ra0x1
  case ha0x1 =>
    intro w9 s9
    have X9 := (s9.block w2.heap.size hl3 hn3).trans Y3.out
    have c0 : w9.cell? ⟨w2.heap.size, 0, none⟩ = some (.int .i64 g) := by rw [Go.Joins.cell_of_block X9]; rfl
    have c1 : w9.cell? ⟨w2.heap.size, 1, none⟩ = some (.int .i64 r) := by rw [Go.Joins.cell_of_block X9]; rfl
    have c2 : w9.cell? ⟨w2.heap.size, 2, none⟩ = some (.string u) := by rw [Go.Joins.cell_of_block X9]; rfl
    clear s9
    go_simp
    try (with_reducible rfl)
  simp only [List.setIfInBounds_toArray, List.set_cons_zero, List.set_cons_succ]
  refine held_take (i := 1) 32 (v := ?va1x2) rfl rfl (by kernel_rfl) (by kernel_rfl) (by kernel_rfl) (fun _ _ _ h => h) hS (by rfl) ?ha1x2 ?ra1x2
  case ha1x2 =>
    intro w9 s9
    have X9 := (s9.block w2.heap.size hl3 hn3).trans Y3.out
    have c0 : w9.cell? ⟨w2.heap.size, 0, none⟩ = some (.int .i64 g) := by rw [Go.Joins.cell_of_block X9]; rfl
    have c1 : w9.cell? ⟨w2.heap.size, 1, none⟩ = some (.int .i64 r) := by rw [Go.Joins.cell_of_block X9]; rfl
    have c2 : w9.cell? ⟨w2.heap.size, 2, none⟩ = some (.string u) := by rw [Go.Joins.cell_of_block X9]; rfl
    clear s9
    go_simp
    try (with_reducible rfl)
  simp only [List.setIfInBounds_toArray, List.set_cons_zero, List.set_cons_succ]
  refine held_take (i := 2) 33 (v := ?va2x3) rfl rfl (by kernel_rfl) (by kernel_rfl) (by kernel_rfl) (fun _ _ _ h => h) hS (by rfl) ?ha2x3 ?ra2x3
  case ha2x3 =>
    intro w9 s9
    clear s9
    go_simp
    try (with_reducible rfl)
  simp only [List.setIfInBounds_toArray, List.set_cons_zero, List.set_cons_succ]
  refine held_take (i := 3) 34 (v := ?va3x4) rfl rfl (by kernel_rfl) (by kernel_rfl) (by kernel_rfl) (fun _ _ _ h => h) hS (by rfl) ?ha3x4 ?ra3x4
  case ha3x4 =>
    intro w9 s9
    clear s9
    go_simp
    try (with_reducible rfl)
  simp only [List.setIfInBounds_toArray, List.set_cons_zero, List.set_cons_succ]
  refine held_step (i := 4) rfl (by kernel_rfl) (fun K hK => ?_)
  have HK := Lib.hid hK
  clear hK
  go_simp
  go_wp2_with fail
  refine (SZ.out _ (B3.out.trans (hS.below (fun i hi => by have hi : i = w.heap.size := hi; omega) B3.out.size))).mono ?_
  rintro e v5 ⟨rfl, rfl⟩
  refine HK.out _ _ ?_ ?_
  · exact hS
  clear HK K
  try simp only [Act.put, List.setIfInBounds_toArray, List.set_cons_zero, List.set_cons_succ]
  refine held_step (i := 5) rfl (by kernel_rfl) (fun K hK => ?_)
  have HK := Lib.hid hK
  clear hK
  go_simp
  go_wp2_with fail
  refine (CT.out _).mono ?_
  rintro e v6 ⟨rfl, b6⟩
  refine HK.out _ _ ?_ ?_
  · exact hS.trans (Frm.of_below (F := fun k => k = w.heap.size) b6) (fun i hi => .inl hi)
  clear HK K
  try simp only [Act.put, List.setIfInBounds_toArray, List.set_cons_zero, List.set_cons_succ]
  have hS9 := hS.trans (Frm.of_below (F := fun k => k = w.heap.size) b6) (fun i hi => .inl hi)
  clear hS
  have hS := hS9
  clear hS9
  have X6 := kept (show w3.drew.heap[w.heap.size]? = _ from X3.out) b6
  clear b6
  have g0 : v6.cell? ⟨w.heap.size, 0, none⟩ = some (.int .i64 0) := by rw [Go.Joins.cell_of_block X6]; rfl
  have g1 : v6.cell? ⟨w.heap.size, 1, none⟩ = some (.int .i64 0) := by rw [Go.Joins.cell_of_block X6]; rfl
  have g2 : v6.cell? ⟨w.heap.size, 2, none⟩ = some (.string ⟨#[]⟩) := by rw [Go.Joins.cell_of_block X6]; rfl
  have f0 := Go.Joins.unfrozen_of_block X6 0
  have f1 := Go.Joins.unfrozen_of_block X6 1
  have f2 := Go.Joins.unfrozen_of_block X6 2
  refine held_step (i := 6) rfl (by kernel_rfl) (fun K hK => ?_)
  have HK := Lib.hid hK
  clear hK
  go_simp
  refine HK.out _ _ ?_ ?_
  · exact ((hS.setCell _ _ (.inl rfl)).setCell _ _ (.inl rfl)).setCell _ _ (.inl rfl)
  clear HK K
  try simp only [Act.put, List.setIfInBounds_toArray, List.set_cons_zero, List.set_cons_succ]
  have XR : (((v6.setCell ⟨w.heap.size, 0, none⟩ (.int .i64 g)).setCell ⟨w.heap.size, 1, none⟩ (.int .i64 r)).setCell ⟨w.heap.size, 2, none⟩ (.string u)).heap[w.heap.size]? = some (.cells #[.int .i64 g, .int .i64 r, .string u] 54) := by
    rw [heap_setCell_same _ _ 2 _ _ _ (heap_setCell_same _ _ 1 _ _ _ (heap_setCell_same _ _ 0 _ _ _ X6))]
    rfl
  have hS9 : Frm (fun k => k = w.heap.size) w3 (((v6.setCell ⟨w.heap.size, 0, none⟩ (.int .i64 g)).setCell ⟨w.heap.size, 1, none⟩ (.int .i64 r)).setCell ⟨w.heap.size, 2, none⟩ (.string u)) := ((hS.setCell _ _ (.inl rfl)).setCell _ _ (.inl rfl)).setCell _ _ (.inl rfl)
  clear g0 g1 g2 f0 f1 f2 X6 hS
  obtain ⟨wy, hwy⟩ : ∃ wy, (((v6.setCell ⟨w.heap.size, 0, none⟩ (.int .i64 g)).setCell ⟨w.heap.size, 1, none⟩ (.int .i64 r)).setCell ⟨w.heap.size, 2, none⟩ (.string u)) = wy := ⟨_, rfl⟩
  rw [hwy] at XR hS9 ⊢
  clear hwy
  have hS := hS9
  clear hS9
  refine held_take (i := 7) 5 (v := ?va7x5) rfl rfl (by kernel_rfl) (by kernel_rfl) (by kernel_rfl) (fun _ _ _ h => h) hS (by rfl) ?ha7x5 ?ra7x5
  case ha7x5 =>
    intro w9 s9
    clear s9
    go_simp
    try (with_reducible rfl)
  simp only [List.setIfInBounds_toArray, List.set_cons_zero, List.set_cons_succ]
  refine wpAnyH_done (by kernel_rfl) ?_ _
  have FIN : Hid (Below w.heap.size w wy) := Lib.hid (B3.out.trans (hS.below (fun i hi => by have hi : i = w.heap.size := hi; omega) B3.out.size))
  have z0 : wy.cell? ⟨w.heap.size, 0, none⟩ = some (.int .i64 g) := by rw [Go.Joins.cell_of_block XR]; rfl
  have z1 : wy.cell? ⟨w.heap.size, 1, none⟩ = some (.int .i64 r) := by rw [Go.Joins.cell_of_block XR]; rfl
  have z2 : wy.cell? ⟨w.heap.size, 2, none⟩ = some (.string u) := by rw [Go.Joins.cell_of_block XR]; rfl
  clear XR hS
  go_wp2_with fail
  exact bodyPost_ret (v := .tuple #[.agg #[.int .i64 g, .int .i64 r, .string u], .bool c]) (by simp [results, Tryd.results49, go_sem, z0, z1, z2]) rfl ⟨rfl, FIN.out⟩
end Go.Proofs.YtbjmbndeaobbeaaDoor
