/-
  Several texts in one: ShRead, ShOpen, ShSto.
-/
import Derived.Test.YtbjmbndeaobbeaaDoorShA
import Derived.Test.YtbjmbndeaobbeaaDoorHeld
import Derived.Test.YtbjmbndeaobbeaaDoorBitsNew
namespace Go.Proofs.YtbjmbndeaobbeaaDoor
open Go.RowKit
set_option linter.unusedVariables false
set_option linter.unusedSimpArgs false
def zeroH : HdS := ⟨0, 0, ⟨#[]⟩⟩
def rdHead (st : DkS) (n : Int) : HdS × Bool :=
  if rdE st n = 0 ∧ rdK st n = 1 ∧ (rdT st n).size = 88 then (parseH (rdT st n), countsB (parseH (rdT st n)) n (st.S.length : Int)) else (zeroH, false)
set_option maxHeartbeats 3200000 in
set_option maxRecDepth 20000 in
theorem readHead_no (w : World) (d : Nat) (st : DkS) (F : Nat → Prop) (h : Dk w d st F) (n : Int) (hc : ¬ (rdE st n = 0 ∧ rdK st n = 1 ∧ (rdT st n).size = 88)) :
    Calls Tryd.prog 49 #[.pointer (some ⟨d, 0, none⟩), .int .i64 n] w fun e w' => e = .returned (.tuple #[hdV zeroH, .bool false]) ∧ Below w.heap.size w w' := by
  unfold hdV zeroH
  dsimp only
  have b0 : Below w.heap.size w (w.alloc (.cells #[.int .i64 0, .int .i64 0, .string ⟨#[]⟩] 54)) := below_made _ _
  have RD := Lib.hid (pageRead_is _ d st F (h.below b0) n)
  have XH := Lib.hid (heap_alloc_new w (.cells #[.int .i64 0, .int .i64 0, .string ⟨#[]⟩] 54))
  have B0 := Lib.hid b0
  generalize rdE st n = q at *
  generalize rdK st n = k at *
  generalize rdT st n = t at *
  have hcase : ((q == 0) = false ∧ (q != 0) = true) ∨ (q = 0 ∧ (((k == 1) = false ∧ (k != 1) = true) ∨ (k = 1 ∧ ((t.size : Int) == 88) = false ∧ ((t.size : Int) != 88) = true))) := by
    by_cases e0 : q = 0
    · refine .inr ⟨e0, ?_⟩
      by_cases e1 : k = 1
      · refine .inr ⟨e1, ?_⟩
        have : ¬ (t.size : Int) = 88 := fun e => hc ⟨e0, e1, by omega⟩
        exact ⟨by simpa using this, by simpa using this⟩
      · exact .inl ⟨by simpa using e1, by simpa using e1⟩
    · exact .inl ⟨by simpa using e0, by simpa using e0⟩
  clear h b0 hc
  rcases hcase with ⟨e0, e0'⟩ | ⟨rfl, ⟨e1, e1'⟩ | ⟨rfl, e2, e2'⟩⟩
  all_goals
    go_enter Tryd.func49, Tryd.ntmps49
    go_wp2_with fail
    refine RD.out.mono ?_
    rintro e w1 ⟨rfl, b1⟩
    have X1 := kept XH.out b1
    have B1 := Lib.hid (chain B0.out b1)
    clear b1
    have g0 : w1.cell? ⟨w.heap.size, 0, none⟩ = some (.int .i64 0) := by rw [Go.Joins.cell_of_block X1]; rfl
    have g1 : w1.cell? ⟨w.heap.size, 1, none⟩ = some (.int .i64 0) := by rw [Go.Joins.cell_of_block X1]; rfl
    have g2 : w1.cell? ⟨w.heap.size, 2, none⟩ = some (.string ⟨#[]⟩) := by rw [Go.Joins.cell_of_block X1]; rfl
    have k0 := Go.Joins.unfrozen_of_block X1 0
    have k1 := Go.Joins.unfrozen_of_block X1 1
    have k2 := Go.Joins.unfrozen_of_block X1 2
    have XR : (((w1.setCell ⟨w.heap.size, 0, none⟩ (.int .i64 0)).setCell ⟨w.heap.size, 1, none⟩ (.int .i64 0)).setCell ⟨w.heap.size, 2, none⟩ (.string ⟨#[]⟩)).heap[w.heap.size]? = some (.cells #[.int .i64 0, .int .i64 0, .string ⟨#[]⟩] 54) := by
      rw [heap_setCell_same _ _ 2 _ _ _ (heap_setCell_same _ _ 1 _ _ _ (heap_setCell_same _ _ 0 _ _ _ X1))]
      rfl
    have Z0 : Hid ((((w1.setCell ⟨w.heap.size, 0, none⟩ (.int .i64 0)).setCell ⟨w.heap.size, 1, none⟩ (.int .i64 0)).setCell ⟨w.heap.size, 2, none⟩ (.string ⟨#[]⟩)).cell? ⟨w.heap.size, 0, none⟩ = some (.int .i64 0)) := Lib.hid (by rw [Go.Joins.cell_of_block XR]; rfl)
    have Z1 : Hid ((((w1.setCell ⟨w.heap.size, 0, none⟩ (.int .i64 0)).setCell ⟨w.heap.size, 1, none⟩ (.int .i64 0)).setCell ⟨w.heap.size, 2, none⟩ (.string ⟨#[]⟩)).cell? ⟨w.heap.size, 1, none⟩ = some (.int .i64 0)) := Lib.hid (by rw [Go.Joins.cell_of_block XR]; rfl)
    have Z2 : Hid ((((w1.setCell ⟨w.heap.size, 0, none⟩ (.int .i64 0)).setCell ⟨w.heap.size, 1, none⟩ (.int .i64 0)).setCell ⟨w.heap.size, 2, none⟩ (.string ⟨#[]⟩)).cell? ⟨w.heap.size, 2, none⟩ = some (.string ⟨#[]⟩)) := Lib.hid (by rw [Go.Joins.cell_of_block XR]; rfl)
    have FIN : Hid (Below w.heap.size w (((w1.setCell ⟨w.heap.size, 0, none⟩ (.int .i64 0)).setCell ⟨w.heap.size, 1, none⟩ (.int .i64 0)).setCell ⟨w.heap.size, 2, none⟩ (.string ⟨#[]⟩))) := Lib.hid (((B1.out.setCell (Nat.le_refl _) _).setCell (Nat.le_refl _) _).setCell (Nat.le_refl _) _)
    clear XR X1
    go_wp2_with fail
    exact bodyPost_ret (v := .tuple #[.agg #[.int .i64 0, .int .i64 0, .string ⟨#[]⟩], .bool false]) (by simp [results, Tryd.results49, go_sem, Z0.out, Z1.out, Z2.out]) rfl ⟨rfl, FIN.out⟩
set_option maxHeartbeats 3200000 in
set_option maxRecDepth 20000 in
theorem readHead_yes (w : World) (d : Nat) (st : DkS) (F : Nat → Prop) (h : Dk w d st F) (n : Int) (h0 : rdE st n = 0) (h1 : rdK st n = 1) (h2 : (rdT st n).size = 88) :
    Calls Tryd.prog 49 #[.pointer (some ⟨d, 0, none⟩), .int .i64 n] w fun e w' => e = .returned (.tuple #[hdV (parseH (rdT st n)), .bool (countsB (parseH (rdT st n)) n (st.S.length : Int))]) ∧ Below w.heap.size w w' := by
  have b0 : Below w.heap.size w (w.alloc (.cells #[.int .i64 0, .int .i64 0, .string ⟨#[]⟩] 54)) := below_made _ _
  have RD := Lib.hid (pageRead_is _ d st F (h.below b0) n)
  rw [h0, h1] at RD
  have XH := Lib.hid (heap_alloc_new w (.cells #[.int .i64 0, .int .i64 0, .string ⟨#[]⟩] 54))
  have B0 := Lib.hid b0
  have PA := Lib.hid (fun w => parse_is (rdT st n) w)
  have SZ := Lib.hid (fun w' (hb : Below w.heap.size w w') => dsize_is w' d st F (h.below hb))
  have g1 := take_rng (rdT st n) 6 (by decide) (by decide)
  have g2 := take_rng (takeR (rdT st n) 6) 2 (by decide) (by decide)
  obtain ⟨c, hcc⟩ : ∃ c, countsB (parseH (rdT st n)) n (st.S.length : Int) = c := ⟨_, rfl⟩
  have CT := Lib.hid (fun w => counts_is (parseH (rdT st n)) n (st.S.length : Int) w (by show _ ≤ takeN _ _; omega) (by show takeN _ _ ≤ _; omega) (by show takeN _ _ ≤ _; omega) c (Lib.hid hcc))
  rw [hcc]
  unfold hdV at *
  generalize parseH (rdT st n) = H at *
  generalize rdT st n = t at *
  obtain ⟨g, r, u⟩ := H
  dsimp only at *
  have h2i : (t.size : Int) = 88 := by omega
  generalize (st.S.length : Int) = z at *
  clear h b0 hcc h0 h1 h2 g1 g2
  go_enter Tryd.func49, Tryd.ntmps49
  go_wp2_with fail
  refine RD.out.mono ?_
  rintro e w1 ⟨rfl, b1⟩
  have X1 := Lib.hid (kept XH.out b1)
  have B1 := Lib.hid (chain B0.out b1)
  clear b1 RD XH B0
  go_wp2_with fail
  refine (PA.out _).mono ?_
  rintro e w2 ⟨rfl, b2⟩
  have X2 := Lib.hid (kept X1.out b2)
  have B2 := Lib.hid (chain B1.out b2)
  clear b2 X1 B1 PA
  have X2l := (Array.getElem?_eq_some_iff.1 X2.out).1
  go_upto_region 5 with fail
  obtain ⟨w3, hw3⟩ : ∃ w3, w2.alloc (.cells #[.int .i64 g, .int .i64 r, .string u] 54) = w3 := ⟨_, rfl⟩
  rw [hw3]
  have b3 : Below w2.heap.size w2 w3 := by rw [← hw3]; exact below_made _ _
  have Y3 := Lib.hid (show w3.heap[w2.heap.size]? = some (.cells #[.int .i64 g, .int .i64 r, .string u] 54) from by rw [← hw3]; exact heap_alloc_new _ _)
  have X3 := Lib.hid (kept X2.out b3)
  have B3 := Lib.hid (chain B2.out b3)
  clear b3 hw3 X2 B2
  have hl3 : w2.heap.size < w3.heap.size := (Array.getElem?_eq_some_iff.1 Y3.out).1
  have hn3 : ¬ w2.heap.size = w.heap.size := by have := (Array.getElem?_eq_some_iff.1 X3.out).1; have := B3.out.size; have := X2l; omega
  refine wp_region_held_drew (S := fun w' => Frm (fun k => k = w.heap.size) w3 w') (by kernel_rfl) ((Frm.refl (fun k => k = w.heap.size) w3).drew) (fun hS => ?_)
  refine held_take (i := 0) 31 (v := ?va0x1) rfl rfl (by kernel_rfl) (by kernel_rfl) (by kernel_rfl) (fun _ _ _ h => h) hS (by rfl) ?ha0x1 ?ra0x1
  case ha0x1 =>
    intro w9 s9
    have X9 := (s9.block w2.heap.size hl3 hn3).trans Y3.out
    have c0 : w9.cell? ⟨w2.heap.size, 0, none⟩ = some (.int .i64 g) := by rw [Go.Joins.cell_of_block X9]; rfl
    have c1 : w9.cell? ⟨w2.heap.size, 1, none⟩ = some (.int .i64 r) := by rw [Go.Joins.cell_of_block X9]; rfl
    have c2 : w9.cell? ⟨w2.heap.size, 2, none⟩ = some (.string u) := by rw [Go.Joins.cell_of_block X9]; rfl
    clear s9
    go_simp
    try (with_reducible rfl)
  simp only [List.setIfInBounds_toArray, List.set_cons_zero, List.set_cons_succ]
  refine held_take (i := 1) 32 (v := ?va1x2) rfl rfl (by kernel_rfl) (by kernel_rfl) (by kernel_rfl) (fun _ _ _ h => h) hS (by rfl) ?ha1x2 ?ra1x2
  case ha1x2 =>
    intro w9 s9
    have X9 := (s9.block w2.heap.size hl3 hn3).trans Y3.out
    have c0 : w9.cell? ⟨w2.heap.size, 0, none⟩ = some (.int .i64 g) := by rw [Go.Joins.cell_of_block X9]; rfl
    have c1 : w9.cell? ⟨w2.heap.size, 1, none⟩ = some (.int .i64 r) := by rw [Go.Joins.cell_of_block X9]; rfl
    have c2 : w9.cell? ⟨w2.heap.size, 2, none⟩ = some (.string u) := by rw [Go.Joins.cell_of_block X9]; rfl
    clear s9
    go_simp
    try (with_reducible rfl)
  simp only [List.setIfInBounds_toArray, List.set_cons_zero, List.set_cons_succ]
  refine held_take (i := 2) 33 (v := ?va2x3) rfl rfl (by kernel_rfl) (by kernel_rfl) (by kernel_rfl) (fun _ _ _ h => h) hS (by rfl) ?ha2x3 ?ra2x3
  case ha2x3 =>
    intro w9 s9
    clear s9
    go_simp
    try (with_reducible rfl)
  simp only [List.setIfInBounds_toArray, List.set_cons_zero, List.set_cons_succ]
  refine held_take (i := 3) 34 (v := ?va3x4) rfl rfl (by kernel_rfl) (by kernel_rfl) (by kernel_rfl) (fun _ _ _ h => h) hS (by rfl) ?ha3x4 ?ra3x4
  case ha3x4 =>
    intro w9 s9
    clear s9
    go_simp
    try (with_reducible rfl)
  simp only [List.setIfInBounds_toArray, List.set_cons_zero, List.set_cons_succ]
  refine held_step (i := 4) rfl (by kernel_rfl) (fun K hK => ?_)
  have HK := Lib.hid hK
  clear hK
  go_simp
  go_wp2_with fail
  refine (SZ.out _ (B3.out.trans (hS.below (fun i hi => by have hi : i = w.heap.size := hi; omega) B3.out.size))).mono ?_
  rintro e v5 ⟨rfl, rfl⟩
  refine HK.out _ _ ?_ ?_
  · exact hS
  clear HK K
  try simp only [Act.put, List.setIfInBounds_toArray, List.set_cons_zero, List.set_cons_succ]
  refine held_step (i := 5) rfl (by kernel_rfl) (fun K hK => ?_)
  have HK := Lib.hid hK
  clear hK
  go_simp
  go_wp2_with fail
  refine (CT.out _).mono ?_
  rintro e v6 ⟨rfl, b6⟩
  refine HK.out _ _ ?_ ?_
  · exact hS.trans (Frm.of_below (F := fun k => k = w.heap.size) b6) (fun i hi => .inl hi)
  clear HK K
  try simp only [Act.put, List.setIfInBounds_toArray, List.set_cons_zero, List.set_cons_succ]
  have hS9 := hS.trans (Frm.of_below (F := fun k => k = w.heap.size) b6) (fun i hi => .inl hi)
  clear hS
  have hS := hS9
  clear hS9
  have X6 := kept (show w3.drew.heap[w.heap.size]? = _ from X3.out) b6
  clear b6
  have g0 : v6.cell? ⟨w.heap.size, 0, none⟩ = some (.int .i64 0) := by rw [Go.Joins.cell_of_block X6]; rfl
  have g1 : v6.cell? ⟨w.heap.size, 1, none⟩ = some (.int .i64 0) := by rw [Go.Joins.cell_of_block X6]; rfl
  have g2 : v6.cell? ⟨w.heap.size, 2, none⟩ = some (.string ⟨#[]⟩) := by rw [Go.Joins.cell_of_block X6]; rfl
  have f0 := Go.Joins.unfrozen_of_block X6 0
  have f1 := Go.Joins.unfrozen_of_block X6 1
  have f2 := Go.Joins.unfrozen_of_block X6 2
  refine held_step (i := 6) rfl (by kernel_rfl) (fun K hK => ?_)
  have HK := Lib.hid hK
  clear hK
  go_simp
  refine HK.out _ _ ?_ ?_
  · exact ((hS.setCell _ _ (.inl rfl)).setCell _ _ (.inl rfl)).setCell _ _ (.inl rfl)
  clear HK K
  try simp only [Act.put, List.setIfInBounds_toArray, List.set_cons_zero, List.set_cons_succ]
  have XR : (((v6.setCell ⟨w.heap.size, 0, none⟩ (.int .i64 g)).setCell ⟨w.heap.size, 1, none⟩ (.int .i64 r)).setCell ⟨w.heap.size, 2, none⟩ (.string u)).heap[w.heap.size]? = some (.cells #[.int .i64 g, .int .i64 r, .string u] 54) := by
    rw [heap_setCell_same _ _ 2 _ _ _ (heap_setCell_same _ _ 1 _ _ _ (heap_setCell_same _ _ 0 _ _ _ X6))]
    rfl
  have hS9 : Frm (fun k => k = w.heap.size) w3 (((v6.setCell ⟨w.heap.size, 0, none⟩ (.int .i64 g)).setCell ⟨w.heap.size, 1, none⟩ (.int .i64 r)).setCell ⟨w.heap.size, 2, none⟩ (.string u)) := ((hS.setCell _ _ (.inl rfl)).setCell _ _ (.inl rfl)).setCell _ _ (.inl rfl)
  clear g0 g1 g2 f0 f1 f2 X6 hS
  obtain ⟨wy, hwy⟩ : ∃ wy, (((v6.setCell ⟨w.heap.size, 0, none⟩ (.int .i64 g)).setCell ⟨w.heap.size, 1, none⟩ (.int .i64 r)).setCell ⟨w.heap.size, 2, none⟩ (.string u)) = wy := ⟨_, rfl⟩
  rw [hwy] at XR hS9 ⊢
  clear hwy
  have hS := hS9
  clear hS9
  refine held_take (i := 7) 5 (v := ?va7x5) rfl rfl (by kernel_rfl) (by kernel_rfl) (by kernel_rfl) (fun _ _ _ h => h) hS (by rfl) ?ha7x5 ?ra7x5
  case ha7x5 =>
    intro w9 s9
    clear s9
    go_simp
    try (with_reducible rfl)
  simp only [List.setIfInBounds_toArray, List.set_cons_zero, List.set_cons_succ]
  refine wpAnyH_done (by kernel_rfl) ?_ _
  have FIN : Hid (Below w.heap.size w wy) := Lib.hid (B3.out.trans (hS.below (fun i hi => by have hi : i = w.heap.size := hi; omega) B3.out.size))
  have z0 : wy.cell? ⟨w.heap.size, 0, none⟩ = some (.int .i64 g) := by rw [Go.Joins.cell_of_block XR]; rfl
  have z1 : wy.cell? ⟨w.heap.size, 1, none⟩ = some (.int .i64 r) := by rw [Go.Joins.cell_of_block XR]; rfl
  have z2 : wy.cell? ⟨w.heap.size, 2, none⟩ = some (.string u) := by rw [Go.Joins.cell_of_block XR]; rfl
  clear XR hS
  go_wp2_with fail
  exact bodyPost_ret (v := .tuple #[.agg #[.int .i64 g, .int .i64 r, .string u], .bool c]) (by simp [results, Tryd.results49, go_sem, z0, z1, z2]) rfl ⟨rfl, FIN.out⟩
end Go.Proofs.YtbjmbndeaobbeaaDoor
namespace Go.Proofs.YtbjmbndeaobbeaaDoor
open Go.RowKit
set_option linter.unusedVariables false
set_option linter.unusedSimpArgs false
theorem readHead_any (w : World) (d : Nat) (st : DkS) (F : Nat → Prop) (h : Dk w d st F) (n : Int) :
    Calls Tryd.prog 49 #[.pointer (some ⟨d, 0, none⟩), .int .i64 n] w fun e w' => e = .returned (.tuple #[hdV (rdHead st n).1, .bool (rdHead st n).2]) ∧ Below w.heap.size w w' := by
  unfold rdHead
  by_cases hc : rdE st n = 0 ∧ rdK st n = 1 ∧ (rdT st n).size = 88
  · rw [if_pos hc]; exact readHead_yes w d st F h n hc.1 hc.2.1 hc.2.2
  · rw [if_neg hc]; exact readHead_no w d st F h n hc
def wrHead (st : DkS) (h : HdS) : DkS × Int := if (pgWr st (h.gen % 2) 1 (headT h)).2 = 0 then (pgWr st (h.gen % 2) 1 (headT h)).1.sync else pgWr st (h.gen % 2) 1 (headT h)
set_option maxHeartbeats 3200000 in
set_option maxRecDepth 20000 in
theorem writeHead_is (w : World) (d : Nat) (st : DkS) (F : Nat → Prop) (hd : Dk w d st F) (h : HdS) (g0 : 0 ≤ h.gen) (g1 : h.gen ≤ 9223372036854775807) (r0 : 0 ≤ h.root) (r1 : h.root ≤ 9223372036854775807) (hu : h.used.size ≤ 1000) :
    Calls Tryd.prog 34 #[.pointer (some ⟨d, 0, none⟩), hdV h] w fun e w' => e = .returned (.int .i64 (wrHead st h).2) ∧ DkPost w d (wrHead st h).1 F w' := by
  have PL := Lib.hid (fun w => place_is h.gen w g0 g1)
  have TX := Lib.hid (fun w => text_is h w g0 g1 r0 r1 hu)
  have WR := Lib.hid (fun w' (hd : Dk w' d st F) => pageWrite_is w' d st F hd (h.gen % 2) 1 (headT h))
  have SY := Lib.hid (fun w' F' (hd : Dk w' d (pgWr st (h.gen % 2) 1 (headT h)).1 F') => sync_any w' d _ F' hd)
  have HFD := Lib.hid (fun k (hk : F k) => hd.lt k hk)
  unfold wrHead hdV at *
  generalize headT h = T at *
  generalize h.gen % 2 = gm at *
  obtain ⟨r, hr⟩ : ∃ r, pgWr st gm 1 T = r := ⟨_, rfl⟩
  rw [hr] at WR SY ⊢
  obtain ⟨W, hW⟩ : ∃ W, w.alloc (.cells #[.int .i64 h.gen, .int .i64 h.root, .string h.used] 54) = W := ⟨_, rfl⟩
  have bW : Below w.heap.size w W := by rw [← hW]; exact below_made _ _
  have XW := Lib.hid (show W.heap[w.heap.size]? = some (.cells #[.int .i64 h.gen, .int .i64 h.root, .string h.used] 54) from by rw [← hW]; exact heap_alloc_new _ _)
  have HD := Lib.hid (hd.below bW)
  have FW := Lib.hid (Frm.of_below (F := F) bW)
  have HW := Lib.hid hW
  obtain ⟨rs, re⟩ := r
  dsimp only at WR SY ⊢
  obtain ⟨R, hR⟩ : ∃ R, (if re = 0 then rs.sync else (rs, re)) = R := ⟨_, rfl⟩
  rw [hR]
  have HR := Lib.hid hR
  clear hd bW hW hr g0 g1 r0 r1 hu hR
  go_enter Tryd.func34, Tryd.ntmps34
  go_wp2_with fail
  rw [HW.out]
  clear HW
  have hlW : w.heap.size < W.heap.size := (Array.getElem?_eq_some_iff.1 XW.out).1
  have hnW : ¬ F w.heap.size := fun hx => Nat.lt_irrefl _ (HFD.out _ hx)
  refine wp_region_held_drew (S := fun w' => Frm F W w') (by kernel_rfl) ((Frm.refl F W).drew) (fun hS => ?_)
  refine held_take (i := 0) 6 (v := ?vw0x1) rfl rfl (by kernel_rfl) (by kernel_rfl) (by kernel_rfl) (fun _ _ _ h => h) hS (by rfl) ?hw0x1 ?rw0x1
  case hw0x1 =>
    intro w9 s9
    clear s9
    go_simp
    try (with_reducible rfl)
  simp only [List.setIfInBounds_toArray, List.set_cons_zero, List.set_cons_succ]
  refine held_take (i := 1) 7 (v := ?vw1x2) rfl rfl (by kernel_rfl) (by kernel_rfl) (by kernel_rfl) (fun _ _ _ h => h) hS (by rfl) ?hw1x2 ?rw1x2
  case hw1x2 =>
    intro w9 s9
    clear s9
    go_simp
    try (with_reducible rfl)
  simp only [List.setIfInBounds_toArray, List.set_cons_zero, List.set_cons_succ]
  refine held_take (i := 2) 8 (v := ?vw2x3) rfl rfl (by kernel_rfl) (by kernel_rfl) (by kernel_rfl) (fun _ _ _ h => h) hS (by rfl) ?hw2x3 ?rw2x3
  case hw2x3 =>
    intro w9 s9
    have X9 := (s9.block w.heap.size hlW hnW).trans XW.out
    have c0 : w9.cell? ⟨w.heap.size, 0, none⟩ = some (.int .i64 h.gen) := by rw [Go.Joins.cell_of_block X9]; rfl
    have c1 : w9.cell? ⟨w.heap.size, 1, none⟩ = some (.int .i64 h.root) := by rw [Go.Joins.cell_of_block X9]; rfl
    have c2 : w9.cell? ⟨w.heap.size, 2, none⟩ = some (.string h.used) := by rw [Go.Joins.cell_of_block X9]; rfl
    clear s9
    go_simp
    try (with_reducible rfl)
  simp only [List.setIfInBounds_toArray, List.set_cons_zero, List.set_cons_succ]
  refine held_take (i := 4) 10 (v := ?vw4x4) rfl rfl (by kernel_rfl) (by kernel_rfl) (by kernel_rfl) (fun _ _ _ h => h) hS (by rfl) ?hw4x4 ?rw4x4
  case hw4x4 =>
    intro w9 s9
    have X9 := (s9.block w.heap.size hlW hnW).trans XW.out
    have c0 : w9.cell? ⟨w.heap.size, 0, none⟩ = some (.int .i64 h.gen) := by rw [Go.Joins.cell_of_block X9]; rfl
    have c1 : w9.cell? ⟨w.heap.size, 1, none⟩ = some (.int .i64 h.root) := by rw [Go.Joins.cell_of_block X9]; rfl
    have c2 : w9.cell? ⟨w.heap.size, 2, none⟩ = some (.string h.used) := by rw [Go.Joins.cell_of_block X9]; rfl
    clear s9
    go_simp
    try (with_reducible rfl)
  simp only [List.setIfInBounds_toArray, List.set_cons_zero, List.set_cons_succ]
  refine held_step (i := 3) rfl (by kernel_rfl) (fun K hK => ?_)
  have HK := Lib.hid hK
  clear hK
  go_simp
  go_wp2_with fail
  refine (PL.out _).mono ?_
  rintro e v3 ⟨rfl, rfl⟩
  refine HK.out _ _ ?_ ?_
  · exact hS
  clear HK K
  try simp only [Act.put, List.setIfInBounds_toArray, List.set_cons_zero, List.set_cons_succ]
  refine held_step (i := 5) rfl (by kernel_rfl) (fun K hK => ?_)
  have HK := Lib.hid hK
  clear hK
  go_simp
  go_wp2_with fail
  refine (TX.out _).mono ?_
  rintro e v5 ⟨rfl, b5⟩
  refine HK.out _ _ ?_ ?_
  · exact hS.trans (Frm.of_below (F := F) b5) (fun i hi => .inl hi)
  clear HK K
  try simp only [Act.put, List.setIfInBounds_toArray, List.set_cons_zero, List.set_cons_succ]
  have HD5 := Lib.hid ((HD.out.below (Below.refl W.heap.size W).drew).below b5)
  have hS9 := hS.trans (Frm.of_below (F := F) b5) (fun i hi => .inl hi)
  clear hS b5
  have hS := hS9
  clear hS9
  have hw5 := Lib.hid hS.size
  refine held_step (i := 6) rfl (by kernel_rfl) (fun K hK => ?_)
  have HK := Lib.hid hK
  clear hK
  go_simp
  go_wp2_with fail
  refine (WR.out _ HD5.out).mono ?_
  rintro e v6 ⟨rfl, F2, hd2, hf2, hs2⟩
  have HD6 := Lib.hid hd2
  have HS6 := Lib.hid hs2
  clear hd2 hs2
  refine HK.out _ _ ?_ ?_
  · exact hS.trans hf2 (fun i hi => .inl hi)
  clear HK K
  try simp only [Act.put, List.setIfInBounds_toArray, List.set_cons_zero, List.set_cons_succ]
  have hS9 := hS.trans hf2 (fun i hi => .inl hi)
  clear hS hf2
  have hS := hS9
  clear hS9
  refine held_take (i := 7) 5 (v := ?vw7x5) rfl rfl (by kernel_rfl) (by kernel_rfl) (by kernel_rfl) (fun _ _ _ h => h) hS (by rfl) ?hw7x5 ?rw7x5
  case hw7x5 =>
    intro w9 s9
    clear s9
    go_simp
    try (with_reducible rfl)
  simp only [List.setIfInBounds_toArray, List.set_cons_zero, List.set_cons_succ]
  refine wpAnyH_done (by kernel_rfl) ?_ _
  have H9 := Lib.hid (FW.out.trans hS (fun i hi => .inl hi))
  have FIN : Hid (∀ (st' : DkS) w', DkPost v6 d st' F2 w' → DkPost w d st' F w') := Lib.hid (fun st' w' hp => DkPost.trans (st1 := st) H9.out (fun k hk => by
    rcases HS6.out k hk with hx | hx
    · exact .inl hx
    · exact .inr (Nat.le_trans (by have := hw5.out; omega) hx)) hp)
  clear hS hw5
  have hR := HR.out
  by_cases h0 : re = 0
  · rw [if_pos h0] at hR
    subst hR
    clear HR
    subst h0
    go_wp2_with fail
    refine (SY.out _ _ HD6.out).mono ?_
    rintro e v7 ⟨rfl, hp⟩
    have HP7 := Lib.hid (FIN.out _ _ hp)
    clear hp
    go_wp2_with fail
    go_ret
    exact ⟨rfl, HP7.out⟩
  · rw [if_neg h0] at hR
    subst hR
    have HP7 := Lib.hid (FIN.out _ _ (DkPost.same HD6.out))
    clear HR
    have h1 : (re == 0) = false := by simpa using h0
    have h2 : (re != 0) = true := by simpa using h0
    clear h0
    go_wp2_with fail
    go_ret
    exact ⟨rfl, HP7.out⟩
def stepH (l a : HdS × Bool) : HdS × Bool := if a.2 = true ∧ l.1.gen < a.1.gen then (a.1, true) else l
def foldH (st : DkS) : Nat → HdS × Bool
  | 0 => (zeroH, false)
  | j + 1 => stepH (foldH st j) (rdHead st (j : Int))
def lastH (st : DkS) : HdS × Bool := foldH st 2
set_option maxHeartbeats 3200000 in
set_option maxRecDepth 20000 in
theorem lastHead_is (w : World) (d : Nat) (st : DkS) (F : Nat → Prop) (hd : Dk w d st F) :
    Calls Tryd.prog 37 #[.pointer (some ⟨d, 0, none⟩)] w fun e w' => e = .returned (.tuple #[hdV (lastH st).1, .bool (lastH st).2]) ∧ Below w.heap.size w w' := by
  have RH := Lib.hid (fun w' (hb : Below w.heap.size w w') n => readHead_any w' d st F (hd.below hb) n)
  obtain ⟨R, hR⟩ : ∃ R, lastH st = R := ⟨_, rfl⟩
  rw [hR]
  have HR := Lib.hid hR
  have X0 := Lib.hid (heap_alloc_new w (.cells #[.int .i64 0, .int .i64 0, .string ⟨#[]⟩] 54))
  have B0 := Lib.hid (below_made w (.cells #[.int .i64 0, .int .i64 0, .string ⟨#[]⟩] 54))
  unfold hdV at *
  clear hd hR
  go_enter Tryd.func37, Tryd.ntmps37
  go_wp2_with fail
  go_loopw [3, 7] (fun f i wr => ∃ (j : Nat) (l : HdS × Bool), j ≤ 2 ∧ i = .int .i64 (j : Int) ∧ f = .bool l.2 ∧ foldH st j = l ∧ wr.heap[w.heap.size]? = some (.cells #[.int .i64 l.1.gen, .int .i64 l.1.root, .string l.1.used] 54) ∧ Below w.heap.size w wr) (fun _ i _ => 3 - (intOf i).toNat)
  case atStart => exact ⟨0, (zeroH, false), by omega, rfl, rfl, rfl, X0.out, B0.out⟩
  case round =>
    obtain ⟨j, l, hj, rfl, rfl, hl, hX, hB⟩ := hrel
    have XR := Lib.hid hX
    have BR := Lib.hid hB
    clear hX hB
    by_cases hlt : j < 2
    · have hji : (j : Int) < 2 := by omega
      have hst : Hid (foldH st (j + 1) = stepH l (rdHead st (j : Int))) := Lib.hid (by rw [← hl]; rfl)
      have RJ := Lib.hid (RH.out wr BR.out (j : Int))
      obtain ⟨⟨H, ok⟩, hH⟩ : ∃ a, rdHead st (j : Int) = a := ⟨_, rfl⟩
      rw [hH] at hst RJ
      clear hH hl
      go_wp2_with fail
      refine RJ.out.mono ?_
      rintro e w1 ⟨rfl, b1⟩
      have X1 := Lib.hid (kept XR.out b1)
      have B1 := Lib.hid (chain BR.out b1)
      clear b1 XR BR RJ
      dsimp only
      go_upto_region 5 with fail
      obtain ⟨w2, hw2⟩ : ∃ w2, w1.alloc (.cells #[.int .i64 H.gen, .int .i64 H.root, .string H.used] 54) = w2 := ⟨_, rfl⟩
      rw [hw2]
      have b2 : Below w1.heap.size w1 w2 := by rw [← hw2]; exact below_made _ _
      have Y2 := show w2.heap[w1.heap.size]? = some (.cells #[.int .i64 H.gen, .int .i64 H.root, .string H.used] 54) from by rw [← hw2]; exact heap_alloc_new _ _
      have X2 := kept X1.out b2
      have B2 := Lib.hid (chain B1.out b2)
      have y0 : w2.cell? ⟨w1.heap.size, 0, none⟩ = some (.int .i64 H.gen) := by rw [Go.Joins.cell_of_block Y2]; rfl
      have y1 : w2.cell? ⟨w1.heap.size, 1, none⟩ = some (.int .i64 H.root) := by rw [Go.Joins.cell_of_block Y2]; rfl
      have y2 : w2.cell? ⟨w1.heap.size, 2, none⟩ = some (.string H.used) := by rw [Go.Joins.cell_of_block Y2]; rfl
      have x0 : w2.cell? ⟨w.heap.size, 0, none⟩ = some (.int .i64 l.1.gen) := by rw [Go.Joins.cell_of_block X2]; rfl
      have x1 : w2.cell? ⟨w.heap.size, 1, none⟩ = some (.int .i64 l.1.root) := by rw [Go.Joins.cell_of_block X2]; rfl
      have x2 : w2.cell? ⟨w.heap.size, 2, none⟩ = some (.string l.1.used) := by rw [Go.Joins.cell_of_block X2]; rfl
      clear b2 hw2 B1 Y2
      have hu : stepH l (H, ok) = if ok = true ∧ l.1.gen < H.gen then (H, true) else l := rfl
      cases ok
      · rw [if_neg (by simp)] at hu
        rw [hu] at hst
        have X2H := Lib.hid X2
        clear hu X2
        go_wp2_with fail
        go_roundw
        case rel => exact ⟨j + 1, l, by omega, by go_num, rfl, hst.out, X2H.out, B2.out⟩
        case measure => simp [intOf]; omega
      · by_cases hg : l.1.gen < H.gen
        · rw [if_pos ⟨rfl, hg⟩] at hu
          rw [hu] at hst
          have f0 := Go.Joins.unfrozen_of_block X2 0
          have f1 := Go.Joins.unfrozen_of_block X2 1
          have f2 := Go.Joins.unfrozen_of_block X2 2
          have XS : Hid ((((w2.setCell ⟨w.heap.size, 0, none⟩ (.int .i64 H.gen)).setCell ⟨w.heap.size, 1, none⟩ (.int .i64 H.root)).setCell ⟨w.heap.size, 2, none⟩ (.string H.used)).heap[w.heap.size]? = some (.cells #[.int .i64 H.gen, .int .i64 H.root, .string H.used] 54)) := Lib.hid (by
            rw [heap_setCell_same _ _ 2 _ _ _ (heap_setCell_same _ _ 1 _ _ _ (heap_setCell_same _ _ 0 _ _ _ X2))]
            rfl)
          have BS : Hid (Below w.heap.size w (((w2.setCell ⟨w.heap.size, 0, none⟩ (.int .i64 H.gen)).setCell ⟨w.heap.size, 1, none⟩ (.int .i64 H.root)).setCell ⟨w.heap.size, 2, none⟩ (.string H.used))) := Lib.hid (((B2.out.setCell (Nat.le_refl _) _).setCell (Nat.le_refl _) _).setCell (Nat.le_refl _) _)
          clear hu X2
          go_wp2_with fail
          go_roundw
          case rel => exact ⟨j + 1, (H, true), by omega, by go_num, rfl, hst.out, XS.out, BS.out⟩
          case measure => simp [intOf]; omega
        · rw [if_neg (by simp; omega)] at hu
          rw [hu] at hst
          have X2H := Lib.hid X2
          clear hu X2
          go_wp2_with fail
          go_roundw
          case rel => exact ⟨j + 1, l, by omega, by go_num, rfl, hst.out, X2H.out, B2.out⟩
          case measure => simp [intOf]; omega
    · obtain rfl : j = 2 := by omega
      have hRl : R = l := by rw [← HR.out]; exact hl
      subst hRl
      have XF := XR.out
      have g0 : wr.cell? ⟨w.heap.size, 0, none⟩ = some (.int .i64 R.1.gen) := by rw [Go.Joins.cell_of_block XF]; rfl
      have g1 : wr.cell? ⟨w.heap.size, 1, none⟩ = some (.int .i64 R.1.root) := by rw [Go.Joins.cell_of_block XF]; rfl
      have g2 : wr.cell? ⟨w.heap.size, 2, none⟩ = some (.string R.1.used) := by rw [Go.Joins.cell_of_block XF]; rfl
      have k0 := Go.Joins.unfrozen_of_block XF 0
      have k1 := Go.Joins.unfrozen_of_block XF 1
      have k2 := Go.Joins.unfrozen_of_block XF 2
      have XS : (((wr.setCell ⟨w.heap.size, 0, none⟩ (.int .i64 R.1.gen)).setCell ⟨w.heap.size, 1, none⟩ (.int .i64 R.1.root)).setCell ⟨w.heap.size, 2, none⟩ (.string R.1.used)).heap[w.heap.size]? = some (.cells #[.int .i64 R.1.gen, .int .i64 R.1.root, .string R.1.used] 54) := by
        rw [heap_setCell_same _ _ 2 _ _ _ (heap_setCell_same _ _ 1 _ _ _ (heap_setCell_same _ _ 0 _ _ _ XF))]
        rfl
      have Z0 : Hid ((((wr.setCell ⟨w.heap.size, 0, none⟩ (.int .i64 R.1.gen)).setCell ⟨w.heap.size, 1, none⟩ (.int .i64 R.1.root)).setCell ⟨w.heap.size, 2, none⟩ (.string R.1.used)).cell? ⟨w.heap.size, 0, none⟩ = some (.int .i64 R.1.gen)) := Lib.hid (by rw [Go.Joins.cell_of_block XS]; rfl)
      have Z1 : Hid ((((wr.setCell ⟨w.heap.size, 0, none⟩ (.int .i64 R.1.gen)).setCell ⟨w.heap.size, 1, none⟩ (.int .i64 R.1.root)).setCell ⟨w.heap.size, 2, none⟩ (.string R.1.used)).cell? ⟨w.heap.size, 1, none⟩ = some (.int .i64 R.1.root)) := Lib.hid (by rw [Go.Joins.cell_of_block XS]; rfl)
      have Z2 : Hid ((((wr.setCell ⟨w.heap.size, 0, none⟩ (.int .i64 R.1.gen)).setCell ⟨w.heap.size, 1, none⟩ (.int .i64 R.1.root)).setCell ⟨w.heap.size, 2, none⟩ (.string R.1.used)).cell? ⟨w.heap.size, 2, none⟩ = some (.string R.1.used)) := Lib.hid (by rw [Go.Joins.cell_of_block XS]; rfl)
      have FIN : Hid (Below w.heap.size w (((wr.setCell ⟨w.heap.size, 0, none⟩ (.int .i64 R.1.gen)).setCell ⟨w.heap.size, 1, none⟩ (.int .i64 R.1.root)).setCell ⟨w.heap.size, 2, none⟩ (.string R.1.used))) := Lib.hid (((BR.out.setCell (Nat.le_refl _) _).setCell (Nat.le_refl _) _).setCell (Nat.le_refl _) _)
      clear XF XS HR hl
      go_wp2_with fail
      exact bodyPost_ret (v := .tuple #[.agg #[.int .i64 R.1.gen, .int .i64 R.1.root, .string R.1.used], .bool R.2]) (by simp [results, Tryd.results37, go_sem, Z0.out, Z1.out, Z2.out]) rfl ⟨rfl, FIN.out⟩
end Go.Proofs.YtbjmbndeaobbeaaDoor
namespace Go.Proofs.YtbjmbndeaobbeaaDoor
open Go.RowKit
set_option linter.unusedVariables false
set_option linter.unusedSimpArgs false
/-- A store, apart from its disk: the head that counts, what is fresh, what is given; has the power been there? -/
structure ShS where
  h : HdS
  fresh : List Int
  given : List Int
  up : Bool
structure HdOk (h : HdS) : Prop where
  g0 : 0 ≤ h.gen
  g1 : h.gen ≤ 281474976710655
  r0 : 0 ≤ h.root
  r1 : h.root ≤ 281474976710655
  u : h.used.size = 80
structure StoIn (w : World) (s d f g : Nat) (st : ShS) : Prop where
  cell : w.heap[s]? = some (.cells #[.pointer (some ⟨d, 0, none⟩), .int .i64 st.h.gen, .int .i64 st.h.root, .string st.h.used, .map (some f), .map (some g), .bool st.up] 58)
  fr : SetI w f st.fresh
  gv : SetI w g st.given
  sf : s ≠ f
  sg : s ≠ g
  fg : f ≠ g
  ok : HdOk st.h
  fb : ∀ x ∈ st.fresh, 2 ≤ x ∧ x < 640
  gb : ∀ x ∈ st.given, 2 ≤ x ∧ x < 640
def StoF (s f g : Nat) (k : Nat) : Prop := k = s ∨ k = f ∨ k = g
def Sto (w : World) (s d : Nat) (st : ShS) (F : Nat → Prop) : Prop := ∃ f g, StoIn w s d f g st ∧ ∀ k, F k ↔ StoF s f g k
theorem StoIn.lt {w : World} {s d f g : Nat} {st : ShS} (h : StoIn w s d f g st) (k : Nat) (hk : StoF s f g k) : k < w.heap.size := by
  rcases hk with rfl | rfl | rfl
  · exact (Array.getElem?_eq_some_iff.1 h.cell).1
  · exact h.fr.lt
  · exact h.gv.lt
theorem StoIn.kept {w w' : World} {s d f g : Nat} {st : ShS} (h : StoIn w s d f g st) (hk : ∀ k, StoF s f g k → w'.heap[k]? = w.heap[k]?) : StoIn w' s d f g st :=
  { h with
    cell := (hk s (.inl rfl)).trans h.cell
    fr := h.fr.kept (hk f (.inr (.inl rfl)))
    gv := h.gv.kept (hk g (.inr (.inr rfl))) }
theorem Sto.lt {w : World} {s d : Nat} {st : ShS} {F : Nat → Prop} (h : Sto w s d st F) (k : Nat) (hk : F k) : k < w.heap.size := by
  obtain ⟨f, g, hi, he⟩ := h
  exact hi.lt k ((he k).1 hk)
theorem Sto.frm {w w' : World} {s d : Nat} {st : ShS} {F G : Nat → Prop} (h : Sto w s d st F) (hf : Frm G w w') (hd : ∀ k, F k → ¬ G k) : Sto w' s d st F := by
  obtain ⟨f, g, hi, he⟩ := h
  exact ⟨f, g, hi.kept fun k hk => hf.block k (hi.lt k hk) (hd k ((he k).2 hk)), he⟩
theorem Sto.below {w w' : World} {s d : Nat} {st : ShS} {F : Nat → Prop} (h : Sto w s d st F) (hb : Below w.heap.size w w') : Sto w' s d st F :=
  h.frm (G := fun _ => False) (Frm.of_below hb) fun _ _ hx => hx
def ShS.new (h : HdS) : ShS := ⟨h, [], [], true⟩
/-- A store of the call's own is handed back. -/
def Opened (w : World) (d : Nat) (st : ShS) (w0 : World) (v : Value) : Prop := ∃ s F, v = .pointer (some ⟨s, 0, none⟩) ∧ Sto w s d st F ∧ ∀ k, F k → w0.heap.size ≤ k
set_option maxHeartbeats 3200000 in
set_option maxRecDepth 20000 in
theorem open_is (w : World) (d : Nat) (h : HdS) (hok : HdOk h) :
    Calls Tryd.prog 38 #[.pointer (some ⟨d, 0, none⟩), hdV h] w fun e w' => ∃ v, e = .returned v ∧ Opened w' d (ShS.new h) w v ∧ Below w.heap.size w w' := by
  have hmk : ∀ w', (Instr.makeMap 56 none).run Tryd.prog w' = .ok (.map (some w'.heap.size)) (w'.alloc (.map #[] 0)) := fun w' => by simp [Instr.makeMap]
  obtain ⟨W, hW⟩ : ∃ W, (((w.alloc (.cells #[.int .i64 h.gen, .int .i64 h.root, .string h.used] 54)).alloc (.map #[] 0)).alloc (.map #[] 0)).alloc (.cells #[.pointer (some ⟨d, 0, none⟩), .int .i64 h.gen, .int .i64 h.root, .string h.used, .map (some (w.heap.size + 1)), .map (some (w.heap.size + 1 + 1)), .bool true] 58) = W := ⟨_, rfl⟩
  have s1 : (w.alloc (.cells #[.int .i64 h.gen, .int .i64 h.root, .string h.used] 54)).heap.size = w.heap.size + 1 := by simp
  have s2 : ((w.alloc (.cells #[.int .i64 h.gen, .int .i64 h.root, .string h.used] 54)).alloc (.map #[] 0)).heap.size = w.heap.size + 1 + 1 := by simp
  have s3 : (((w.alloc (.cells #[.int .i64 h.gen, .int .i64 h.root, .string h.used] 54)).alloc (.map #[] 0)).alloc (.map #[] 0)).heap.size = w.heap.size + 1 + 1 + 1 := by simp
  have X1 : W.heap[w.heap.size + 1]? = some (.map #[] 0) := by
    rw [← hW, ← s1]; exact (heap_alloc_old _ _ (by rw [s3]; omega)).trans ((heap_alloc_old _ _ (by rw [s2]; omega)).trans (heap_alloc_new _ _))
  have X2 : W.heap[w.heap.size + 1 + 1]? = some (.map #[] 0) := by
    rw [← hW, ← s2]; exact (heap_alloc_old _ _ (by rw [s3]; omega)).trans (heap_alloc_new _ _)
  have X3 : W.heap[w.heap.size + 1 + 1 + 1]? = some (.cells #[.pointer (some ⟨d, 0, none⟩), .int .i64 h.gen, .int .i64 h.root, .string h.used, .map (some (w.heap.size + 1)), .map (some (w.heap.size + 1 + 1)), .bool true] 58) := by
    rw [← hW, ← s3]; exact heap_alloc_new _ _
  have BW : Below w.heap.size w W := by
    rw [← hW]; exact ((((Below.refl _ _).alloc (Nat.le_refl _) _).alloc (by rw [s1]; omega) _).alloc (by rw [s2]; omega) _).alloc (by rw [s3]; omega) _
  have FIN : Hid (Opened W d (ShS.new h) w (.pointer (some ⟨w.heap.size + 1 + 1 + 1, 0, none⟩)) ∧ Below w.heap.size w W) := Lib.hid
    ⟨⟨w.heap.size + 1 + 1 + 1, StoF (w.heap.size + 1 + 1 + 1) (w.heap.size + 1) (w.heap.size + 1 + 1), rfl, ⟨_, _, ⟨X3, ⟨#[], 0, X1, rfl, MapKept.stamped_empty 0⟩, ⟨#[], 0, X2, rfl, MapKept.stamped_empty 0⟩, by omega, by omega, by omega, hok, (fun x hx => by cases hx), fun x hx => by cases hx⟩, fun k => Iff.rfl⟩, fun k hk => by
      rcases hk with rfl | rfl | rfl <;> omega⟩, BW⟩
  have HW := Lib.hid hW
  unfold hdV
  clear s1 s2 s3 X1 X2 X3 BW hW hok
  go_enter Tryd.func38, Tryd.ntmps38
  go_wp2_with fail
  go_ret
  first | rw [HW.out] | skip
  exact ⟨_, rfl, FIN.out.1, FIN.out.2⟩
end Go.Proofs.YtbjmbndeaobbeaaDoor
