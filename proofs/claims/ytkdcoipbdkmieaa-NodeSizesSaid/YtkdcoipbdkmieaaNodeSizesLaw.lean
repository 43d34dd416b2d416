/-
  The law NodeSizes of package bailiwicklaw10.
-/
import Derived.Test.YtkdcoipbdkmieaaNodeX
import Derived.Test.YtkdcoipbdkmieaaNodeB
namespace Go.Proofs.Ytkdcoipbdkmieaa
open Go.RowKit
set_option linter.unusedVariables false
set_option linter.unusedSimpArgs false
set_option maxHeartbeats 6400000 in
set_option maxRecDepth 20000 in
theorem sizes_f (a : Option Addr) (cap : Nat) (L : List (Int × ByteArray)) (key : Int) (v : ByteArray) (w : World) (hL : Prs w a L) (hk : ∀ p ∈ L, 0 ≤ p.1 ∧ p.1 ≤ 18446744073709551615) (hs : ∀ p ∈ L, p.2.size ≤ 9223372036854775807) (hkey : 0 ≤ key ∧ key ≤ 18446744073709551615)  (hfd : (findN (growN L 20) key).2 = false) :
    Calls Try.prog 9 #[.slice a L.length cap, .int .u64 key, .string v] w fun e w' => e = .returned (.bool true) ∧ Below w.heap.size w w' := by
  have EX := Lib.hid (examples_yes w)
  have GR := Lib.hid (fun w' (hb : Below w.heap.size w w') => grow_any a cap L w' (hL.below hb) hk hs)
  have BR := Lib.hid (fun w' (hb : Below w.heap.size w w') => branch_any a cap L w' (hL.below hb) hk)
  have gl := growN_leaf L 20
  have bl := branchN_ok L (min L.length 20)
  have hx : v.extract 0 (min (v.size : Int) 40).toNat = cut40 v := by unfold cut40; rw [show (min (v.size : Int) 40).toNat = min v.size 40 from by omega]
  have hc40 := cut40_le v
  generalize growN L 20 = N at *
  generalize branchN L (min L.length 20) = B at *
  generalize L.length = ln at *
  obtain ⟨x, hxx⟩ : ∃ x, cut40 v = x := ⟨_, rfl⟩
  rw [hxx] at hx hc40
  have hpc := put_cost N key x gl.1 gl.2.1
  rw [hfd] at hpc
  obtain ⟨p, hp⟩ : ∃ p, (findN N key).1 = p := ⟨_, rfl⟩
  rw [hp] at hpc
  have hfn : findN N key = (p, false) := by rw [← hp, ← hfd]
  obtain ⟨q, hq⟩ : ∃ q, (findN B key).1 = q := ⟨_, rfl⟩
  obtain ⟨qo, hqo⟩ : ∃ qo, (findN B key).2 = qo := ⟨_, rfl⟩
  have hqn : findN B key = (q, qo) := by rw [← hq, ← hqo]
  have hql := findN_le B key
  rw [hq] at hql
  have hhs := hang_size B q key 9 bl.1 bl.2.1 hql
  have hhg := hang_whole B (q : Int) key 9 bl.1 bl.2.1
  have hlen : B.K.length ≤ 20 := by have := bl.2.2; omega
  have hsb : (sizeN B : Int) = 3 + 10 * (B.K.length : Int) := by
    have := (wholeB_branch bl.1).1 bl.2.1
    unfold sizeN
    rw [bl.1]
    simp only [Bool.false_eq_true, if_false]
    omega
  have FN := Lib.hid (fun ak av ac ck cv cc w' (h : NodR w' N ak av ac ck cv cc) => find_is N ak av ac ck cv cc w' h key p false (Lib.hid hfn))
  have FB := Lib.hid (fun ak av ac ck cv cc w' (h : NodR w' B ak av ac ck cv cc) => find_is B ak av ac ck cv cc w' h key q qo (Lib.hid hqn))
  have PT := Lib.hid (fun ak av ac ck cv cc w' (h : NodR w' N ak av ac ck cv cc) => put_is N ak av ac ck cv cc w' h key x gl.1 gl.2.1 (by have := gl.2.2; omega) hkey (by omega))
  have HN := Lib.hid (fun ak av ac ck cv cc w' (h : NodR w' B ak av ac ck cv cc) => hang_is B ak av ac ck cv cc w' h q key 9 bl.1 bl.2.1 hql (by omega) hkey (by decide))
  have SN := Lib.hid (fun ak av ac ck cv cc w' (h : NodR w' N ak av ac ck cv cc) => size_is N ak av ac ck cv cc w' h _ (Lib.hid rfl) gl.2.1)
  have SP := Lib.hid (fun ak av ac ck cv cc w' (h : NodR w' (putN N key x) ak av ac ck cv cc) => size_is _ ak av ac ck cv cc w' h _ (Lib.hid rfl) (put_whole N key x gl.1 gl.2.1))
  have SB := Lib.hid (fun ak av ac ck cv cc w' (h : NodR w' B ak av ac ck cv cc) => size_is B ak av ac ck cv cc w' h _ (Lib.hid rfl) bl.2.1)
  have SH := Lib.hid (fun ak av ac ck cv cc w' (h : NodR w' (hangN B (q : Int) key 9) ak av ac ck cv cc) => size_is _ ak av ac ck cv cc w' h _ (Lib.hid rfl) hhg.2)
  rw [hsb] at SB hhs
  generalize putN N key x = PN at *
  generalize hangN B (q : Int) key 9 = HB at *
  generalize sizeN PN = zp at *
  generalize sizeN N = zn at *
  generalize sizeN HB = zh at *
  have hw1 : IntKind.i64.wrap (9 + (x.size : Int)) = 9 + (x.size : Int) := IntWalk.i64_in _ (by omega)
  have hw2 : IntKind.i64.wrap ((zh : Int) - (3 + 10 * (B.K.length : Int))) = 10 := by rw [hhs]; exact IntWalk.i64_in _ (by omega)
  have hw3 : IntKind.i64.wrap (10 * (B.K.length : Int)) = 10 * (B.K.length : Int) := IntWalk.i64_in _ (by omega)
  have hw4 : IntKind.i64.wrap (3 + 10 * (B.K.length : Int)) = 3 + 10 * (B.K.length : Int) := IntWalk.i64_in _ (by omega)
  simp only [Bool.false_eq_true, if_false] at hpc
  have hw5 : IntKind.i64.wrap ((zp : Int) - (zn : Int)) = 9 + (x.size : Int) := by rw [hpc]; exact hw1
  clear hpc
  have HW0 : Hid (Below w.heap.size w w) := Lib.hid (Below.refl _ _)
  clear hL hk hs hkey gl bl hc40 hfd hp hfn hq hqo hqn hql hhs hhg hlen hsb hxx
  go_enter Try.func9, Try.ntmps9
  go_wp2_with fail
  refine EX.out.mono ?_
  rintro e w1 ⟨rfl, b1⟩
  have B1 := Lib.hid b1
  clear b1 EX
  go_wp2_with fail
  clear hx HW0
  refine (GR.out _ B1.out).mono ?_
  rintro e w2 ⟨⟨ak, av, ac, ck, cv, cc, rfl, hR2, -, -, -⟩, b2⟩
  have B2 := Lib.hid (chain B1.out b2)
  have R2 := Lib.hid hR2
  clear b2 hR2 GR B1
  simp only [nodV]
  go_wp2_with fail
  obtain ⟨w3, hw3'⟩ : ∃ w3, w2.alloc (.cells #[.bool N.leaf, .slice ak N.K.length ck, .slice av N.V.length cv, .slice ac N.C.length cc] 26) = w3 := ⟨_, rfl⟩
  rw [hw3']
  have b3 : Below w2.heap.size w2 w3 := by rw [← hw3']; exact below_made _ _
  have X3 : Hid (w3.heap[w2.heap.size]? = some (.cells #[.bool N.leaf, .slice ak N.K.length ck, .slice av N.V.length cv, .slice ac N.C.length cc] 26)) := Lib.hid (by rw [← hw3']; exact heap_alloc_new _ _)
  have R3 := Lib.hid (R2.out.below b3)
  have B3 := Lib.hid (chain B2.out b3)
  clear hw3' b3 R2 B2
  have y0 : w3.cell? ⟨w2.heap.size, 0, none⟩ = some (.bool N.leaf) := by rw [Go.Joins.cell_of_block X3.out]; rfl
  have y1 : w3.cell? ⟨w2.heap.size, 1, none⟩ = some (.slice ak N.K.length ck) := by rw [Go.Joins.cell_of_block X3.out]; rfl
  have y2 : w3.cell? ⟨w2.heap.size, 2, none⟩ = some (.slice av N.V.length cv) := by rw [Go.Joins.cell_of_block X3.out]; rfl
  have y3 : w3.cell? ⟨w2.heap.size, 3, none⟩ = some (.slice ac N.C.length cc) := by rw [Go.Joins.cell_of_block X3.out]; rfl
  go_wp2_with fail
  refine (FN.out _ _ _ _ _ _ _ R3.out).mono ?_
  rintro e w4 ⟨rfl, b4⟩
  have X4 := Lib.hid (kept X3.out b4)
  have R4 := Lib.hid (R3.out.below b4)
  have B4 := Lib.hid (chain B3.out b4)
  clear b4 X3 R3 B3 FN y0 y1 y2 y3
  go_wp2_with fail
  refine wp_region_held_drew (S := fun w' => Below w4.heap.size w4 w') (by kernel_rfl) (Below.refl w4.heap.size w4).drew (fun hS => ?_)
  refine held_take (i := 0) 33 (v := ?vg0x1) rfl rfl (by kernel_rfl) (by kernel_rfl) (by kernel_rfl) (fun _ _ _ h => h) hS (by rfl) ?hg0x1 ?rg0x1
  case hg0x1 =>
    intro w9 s9
    have X9 := kept X4.out s9
    have c0 : w9.cell? ⟨w2.heap.size, 0, none⟩ = some (.bool N.leaf) := by rw [Go.Joins.cell_of_block X9]; rfl
    have c1 : w9.cell? ⟨w2.heap.size, 1, none⟩ = some (.slice ak N.K.length ck) := by rw [Go.Joins.cell_of_block X9]; rfl
    have c2 : w9.cell? ⟨w2.heap.size, 2, none⟩ = some (.slice av N.V.length cv) := by rw [Go.Joins.cell_of_block X9]; rfl
    have c3 : w9.cell? ⟨w2.heap.size, 3, none⟩ = some (.slice ac N.C.length cc) := by rw [Go.Joins.cell_of_block X9]; rfl
    clear s9
    go_simp
    try (with_reducible rfl)
  simp only [List.setIfInBounds_toArray, List.set_cons_zero, List.set_cons_succ]
  refine held_take (i := 1) 34 (v := ?vg1x2) rfl rfl (by kernel_rfl) (by kernel_rfl) (by kernel_rfl) (fun _ _ _ h => h) hS (by rfl) ?hg1x2 ?rg1x2
  case hg1x2 =>
    intro w9 s9
    clear s9
    go_simp
    try (with_reducible rfl)
  simp only [List.setIfInBounds_toArray, List.set_cons_zero, List.set_cons_succ]
  refine held_take (i := 2) 35 (v := ?vg2x3) rfl rfl (by kernel_rfl) (by kernel_rfl) (by kernel_rfl) (fun _ _ _ h => h) hS (by rfl) ?hg2x3 ?rg2x3
  case hg2x3 =>
    intro w9 s9
    clear s9
    go_simp
    try (with_reducible rfl)
  simp only [List.setIfInBounds_toArray, List.set_cons_zero, List.set_cons_succ]
  refine held_take (i := 5) 38 (v := ?vg5x4) rfl rfl (by kernel_rfl) (by kernel_rfl) (by kernel_rfl) (fun _ _ _ h => h) hS (by rfl) ?hg5x4 ?rg5x4
  case hg5x4 =>
    intro w9 s9
    have X9 := kept X4.out s9
    have c0 : w9.cell? ⟨w2.heap.size, 0, none⟩ = some (.bool N.leaf) := by rw [Go.Joins.cell_of_block X9]; rfl
    have c1 : w9.cell? ⟨w2.heap.size, 1, none⟩ = some (.slice ak N.K.length ck) := by rw [Go.Joins.cell_of_block X9]; rfl
    have c2 : w9.cell? ⟨w2.heap.size, 2, none⟩ = some (.slice av N.V.length cv) := by rw [Go.Joins.cell_of_block X9]; rfl
    have c3 : w9.cell? ⟨w2.heap.size, 3, none⟩ = some (.slice ac N.C.length cc) := by rw [Go.Joins.cell_of_block X9]; rfl
    clear s9
    go_simp
    try (with_reducible rfl)
  simp only [List.setIfInBounds_toArray, List.set_cons_zero, List.set_cons_succ]
  refine held_step (i := 3) rfl (by kernel_rfl) (fun K hK => ?_)
  have HK := Lib.hid hK
  clear hK
  go_simp
  go_wp2_with fail
  refine (PT.out _ _ _ _ _ _ _ (R4.out.below hS)).mono ?_
  rintro e g5 ⟨⟨gk, gv, gc, ga, gb, gd, rfl, hPR, -, -, -⟩, b5⟩
  have hPRH := Lib.hid hPR
  clear hPR
  simp only [nodV]
  refine HK.out _ _ ?_ ?_
  · exact chain hS b5
  clear HK K
  try simp only [Act.put, List.setIfInBounds_toArray, List.set_cons_zero, List.set_cons_succ]
  have hS9 := chain hS b5
  clear hS
  have hS := hS9
  clear hS9
  clear b5
  refine held_step (i := 4) rfl (by kernel_rfl) (fun K hK => ?_)
  have HK := Lib.hid hK
  clear hK
  go_simp
  go_wp2_with fail
  refine (SP.out _ _ _ _ _ _ _ hPRH.out).mono ?_
  rintro e g6 ⟨rfl, b6⟩
  refine HK.out _ _ ?_ ?_
  · exact chain hS b6
  clear HK K
  try simp only [Act.put, List.setIfInBounds_toArray, List.set_cons_zero, List.set_cons_succ]
  have hS9 := chain hS b6
  clear hS
  have hS := hS9
  clear hS9
  clear b6
  refine held_step (i := 6) rfl (by kernel_rfl) (fun K hK => ?_)
  have HK := Lib.hid hK
  clear hK
  go_simp
  go_wp2_with fail
  refine (SN.out _ _ _ _ _ _ _ (R4.out.below hS)).mono ?_
  rintro e g7 ⟨rfl, b7⟩
  refine HK.out _ _ ?_ ?_
  · exact chain hS b7
  clear HK K
  try simp only [Act.put, List.setIfInBounds_toArray, List.set_cons_zero, List.set_cons_succ]
  have hS9 := chain hS b7
  clear hS
  have hS := hS9
  clear hS9
  clear b7
  refine held_take (i := 7) 40 (v := ?vg7x5) rfl rfl (by kernel_rfl) (by kernel_rfl) (by kernel_rfl) (fun _ _ _ h => h) hS (by rfl) ?hg7x5 ?rg7x5
  case hg7x5 =>
    intro w9 s9
    clear s9
    go_simp
    try (with_reducible rfl)
  simp only [List.setIfInBounds_toArray, List.set_cons_zero, List.set_cons_succ]
  refine held_take (i := 8) 11 (v := ?vg8x6) rfl rfl (by kernel_rfl) (by kernel_rfl) (by kernel_rfl) (fun _ _ _ h => h) hS (by rfl) ?hg8x6 ?rg8x6
  case hg8x6 =>
    intro w9 s9
    clear s9
    go_simp
    try (with_reducible rfl)
  simp only [List.setIfInBounds_toArray, List.set_cons_zero, List.set_cons_succ]
  refine wpAnyH_done (by kernel_rfl) ?_ _
  have H7 := Lib.hid hS
  clear hS
  have X7 := Lib.hid (kept X4.out H7.out)
  have R7 := Lib.hid (R4.out.below H7.out)
  have B7 := Lib.hid (chain B4.out H7.out)
  clear X4 R4 B4 H7 PT SP SN hPRH hw5
  have y0 : g7.cell? ⟨w2.heap.size, 0, none⟩ = some (.bool N.leaf) := by rw [Go.Joins.cell_of_block X7.out]; rfl
  have y1 : g7.cell? ⟨w2.heap.size, 1, none⟩ = some (.slice ak N.K.length ck) := by rw [Go.Joins.cell_of_block X7.out]; rfl
  have y2 : g7.cell? ⟨w2.heap.size, 2, none⟩ = some (.slice av N.V.length cv) := by rw [Go.Joins.cell_of_block X7.out]; rfl
  have y3 : g7.cell? ⟨w2.heap.size, 3, none⟩ = some (.slice ac N.C.length cc) := by rw [Go.Joins.cell_of_block X7.out]; rfl
  go_wp2_with fail
  refine (BR.out _ B7.out).mono ?_
  rintro e w8 ⟨⟨bk, bv, bc, dk, dv, dc, rfl, hR8, -, -, -⟩, b8⟩
  have B8 := Lib.hid (chain B7.out b8)
  have R8 := Lib.hid hR8
  clear b8 hR8 BR B7 X7 R7 y0 y1 y2 y3
  simp only [nodV]
  go_wp2_with fail
  obtain ⟨w9', hw9'⟩ : ∃ w9', w8.alloc (.cells #[.bool B.leaf, .slice bk B.K.length dk, .slice bv B.V.length dv, .slice bc B.C.length dc] 26) = w9' := ⟨_, rfl⟩
  rw [hw9']
  have b9 : Below w8.heap.size w8 w9' := by rw [← hw9']; exact below_made _ _
  have X9' : Hid (w9'.heap[w8.heap.size]? = some (.cells #[.bool B.leaf, .slice bk B.K.length dk, .slice bv B.V.length dv, .slice bc B.C.length dc] 26)) := Lib.hid (by rw [← hw9']; exact heap_alloc_new _ _)
  have R9 := Lib.hid (R8.out.below b9)
  have B9 := Lib.hid (chain B8.out b9)
  clear hw9' b9 R8 B8
  have y0 : w9'.cell? ⟨w8.heap.size, 0, none⟩ = some (.bool B.leaf) := by rw [Go.Joins.cell_of_block X9'.out]; rfl
  have y1 : w9'.cell? ⟨w8.heap.size, 1, none⟩ = some (.slice bk B.K.length dk) := by rw [Go.Joins.cell_of_block X9'.out]; rfl
  have y2 : w9'.cell? ⟨w8.heap.size, 2, none⟩ = some (.slice bv B.V.length dv) := by rw [Go.Joins.cell_of_block X9'.out]; rfl
  have y3 : w9'.cell? ⟨w8.heap.size, 3, none⟩ = some (.slice bc B.C.length dc) := by rw [Go.Joins.cell_of_block X9'.out]; rfl
  go_wp2_with fail
  refine (FB.out _ _ _ _ _ _ _ R9.out).mono ?_
  rintro e wa ⟨rfl, ba⟩
  have XA := Lib.hid (kept X9'.out ba)
  have RA := Lib.hid (R9.out.below ba)
  have BA := Lib.hid (chain B9.out ba)
  clear ba X9' R9 B9 FB y0 y1 y2 y3
  go_wp2_with fail
  refine wp_region_held_drew (S := fun w' => Below wa.heap.size wa w') (by kernel_rfl) (Below.refl wa.heap.size wa).drew (fun hS => ?_)
  refine held_take (i := 0) 69 (v := ?vk0x1) rfl rfl (by kernel_rfl) (by kernel_rfl) (by kernel_rfl) (fun _ _ _ h => h) hS (by rfl) ?hk0x1 ?rk0x1
  case hk0x1 =>
    intro w9 s9
    have X9 := kept XA.out s9
    have c0 : w9.cell? ⟨w8.heap.size, 0, none⟩ = some (.bool B.leaf) := by rw [Go.Joins.cell_of_block X9]; rfl
    have c1 : w9.cell? ⟨w8.heap.size, 1, none⟩ = some (.slice bk B.K.length dk) := by rw [Go.Joins.cell_of_block X9]; rfl
    have c2 : w9.cell? ⟨w8.heap.size, 2, none⟩ = some (.slice bv B.V.length dv) := by rw [Go.Joins.cell_of_block X9]; rfl
    have c3 : w9.cell? ⟨w8.heap.size, 3, none⟩ = some (.slice bc B.C.length dc) := by rw [Go.Joins.cell_of_block X9]; rfl
    clear s9
    go_simp
    try (with_reducible rfl)
  simp only [List.setIfInBounds_toArray, List.set_cons_zero, List.set_cons_succ]
  refine held_take (i := 1) 70 (v := ?vk1x2) rfl rfl (by kernel_rfl) (by kernel_rfl) (by kernel_rfl) (fun _ _ _ h => h) hS (by rfl) ?hk1x2 ?rk1x2
  case hk1x2 =>
    intro w9 s9
    clear s9
    go_simp
    try (with_reducible rfl)
  simp only [List.setIfInBounds_toArray, List.set_cons_zero, List.set_cons_succ]
  refine held_take (i := 2) 71 (v := ?vk2x3) rfl rfl (by kernel_rfl) (by kernel_rfl) (by kernel_rfl) (fun _ _ _ h => h) hS (by rfl) ?hk2x3 ?rk2x3
  case hk2x3 =>
    intro w9 s9
    clear s9
    go_simp
    try (with_reducible rfl)
  simp only [List.setIfInBounds_toArray, List.set_cons_zero, List.set_cons_succ]
  refine held_take (i := 5) 74 (v := ?vk5x4) rfl rfl (by kernel_rfl) (by kernel_rfl) (by kernel_rfl) (fun _ _ _ h => h) hS (by rfl) ?hk5x4 ?rk5x4
  case hk5x4 =>
    intro w9 s9
    have X9 := kept XA.out s9
    have c0 : w9.cell? ⟨w8.heap.size, 0, none⟩ = some (.bool B.leaf) := by rw [Go.Joins.cell_of_block X9]; rfl
    have c1 : w9.cell? ⟨w8.heap.size, 1, none⟩ = some (.slice bk B.K.length dk) := by rw [Go.Joins.cell_of_block X9]; rfl
    have c2 : w9.cell? ⟨w8.heap.size, 2, none⟩ = some (.slice bv B.V.length dv) := by rw [Go.Joins.cell_of_block X9]; rfl
    have c3 : w9.cell? ⟨w8.heap.size, 3, none⟩ = some (.slice bc B.C.length dc) := by rw [Go.Joins.cell_of_block X9]; rfl
    clear s9
    go_simp
    try (with_reducible rfl)
  simp only [List.setIfInBounds_toArray, List.set_cons_zero, List.set_cons_succ]
  refine held_step (i := 3) rfl (by kernel_rfl) (fun K hK => ?_)
  have HK := Lib.hid hK
  clear hK
  go_simp
  go_wp2_with fail
  refine (HN.out _ _ _ _ _ _ _ (RA.out.below hS)).mono ?_
  rintro e k5 ⟨⟨kk, kv, kc, ka, kb, kd, rfl, hHR, -, -, -⟩, b5⟩
  have hHRH := Lib.hid hHR
  clear hHR
  simp only [nodV]
  refine HK.out _ _ ?_ ?_
  · exact chain hS b5
  clear HK K
  try simp only [Act.put, List.setIfInBounds_toArray, List.set_cons_zero, List.set_cons_succ]
  have hS9 := chain hS b5
  clear hS
  have hS := hS9
  clear hS9
  clear b5
  refine held_step (i := 4) rfl (by kernel_rfl) (fun K hK => ?_)
  have HK := Lib.hid hK
  clear hK
  go_simp
  go_wp2_with fail
  refine (SH.out _ _ _ _ _ _ _ hHRH.out).mono ?_
  rintro e k6 ⟨rfl, b6⟩
  refine HK.out _ _ ?_ ?_
  · exact chain hS b6
  clear HK K
  try simp only [Act.put, List.setIfInBounds_toArray, List.set_cons_zero, List.set_cons_succ]
  have hS9 := chain hS b6
  clear hS
  have hS := hS9
  clear hS9
  clear b6
  refine held_step (i := 6) rfl (by kernel_rfl) (fun K hK => ?_)
  have HK := Lib.hid hK
  clear hK
  go_simp
  go_wp2_with fail
  refine (SB.out _ _ _ _ _ _ _ (RA.out.below hS)).mono ?_
  rintro e k7 ⟨rfl, b7⟩
  refine HK.out _ _ ?_ ?_
  · exact chain hS b7
  clear HK K
  try simp only [Act.put, List.setIfInBounds_toArray, List.set_cons_zero, List.set_cons_succ]
  have hS9 := chain hS b7
  clear hS
  have hS := hS9
  clear hS9
  clear b7
  refine held_take (i := 7) 76 (v := ?vk7x5) rfl rfl (by kernel_rfl) (by kernel_rfl) (by kernel_rfl) (fun _ _ _ h => h) hS (by rfl) ?hk7x5 ?rk7x5
  case hk7x5 =>
    intro w9 s9
    clear s9
    go_simp
    try (with_reducible rfl)
  simp only [List.setIfInBounds_toArray, List.set_cons_zero, List.set_cons_succ]
  refine held_take (i := 8) 16 (v := ?vk8x6) rfl rfl (by kernel_rfl) (by kernel_rfl) (by kernel_rfl) (fun _ _ _ h => h) hS (by rfl) ?hk8x6 ?rk8x6
  case hk8x6 =>
    intro w9 s9
    clear s9
    go_simp
    try (with_reducible rfl)
  simp only [List.setIfInBounds_toArray, List.set_cons_zero, List.set_cons_succ]
  refine wpAnyH_done (by kernel_rfl) ?_ _
  have H13 := Lib.hid hS
  clear hS
  have XC := Lib.hid (kept XA.out H13.out)
  have RC := Lib.hid (RA.out.below H13.out)
  have BC := Lib.hid (chain BA.out H13.out)
  clear XA RA BA H13 HN SH hHRH hw2
  go_wp2_with fail
  refine wp_region_held_drew (S := fun w' => Below k7.heap.size k7 w') (by kernel_rfl) (Below.refl k7.heap.size k7).drew (fun hS => ?_)
  refine held_take (i := 0) 77 (v := ?vm0x1) rfl rfl (by kernel_rfl) (by kernel_rfl) (by kernel_rfl) (fun _ _ _ h => h) hS (by rfl) ?hm0x1 ?rm0x1
  case hm0x1 =>
    intro w9 s9
    clear s9
    go_simp
    try (with_reducible rfl)
  simp only [List.setIfInBounds_toArray, List.set_cons_zero, List.set_cons_succ]
  refine held_take (i := 1) 78 (v := ?vm1x2) rfl rfl (by kernel_rfl) (by kernel_rfl) (by kernel_rfl) (fun _ _ _ h => h) hS (by rfl) ?hm1x2 ?rm1x2
  case hm1x2 =>
    intro w9 s9
    clear s9
    go_simp
    try (with_reducible rfl)
  simp only [List.setIfInBounds_toArray, List.set_cons_zero, List.set_cons_succ]
  refine held_take (i := 2) 79 (v := ?vm2x3) rfl rfl (by kernel_rfl) (by kernel_rfl) (by kernel_rfl) (fun _ _ _ h => h) hS (by rfl) ?hm2x3 ?rm2x3
  case hm2x3 =>
    intro w9 s9
    clear s9
    go_simp
    try (with_reducible rfl)
  simp only [List.setIfInBounds_toArray, List.set_cons_zero, List.set_cons_succ]
  refine held_take (i := 3) 80 (v := ?vm3x4) rfl rfl (by kernel_rfl) (by kernel_rfl) (by kernel_rfl) (fun _ _ _ h => h) hS (by rfl) ?hm3x4 ?rm3x4
  case hm3x4 =>
    intro w9 s9
    clear s9
    go_simp
    try (with_reducible rfl)
  simp only [List.setIfInBounds_toArray, List.set_cons_zero, List.set_cons_succ]
  refine held_take (i := 4) 81 (v := ?vm4x5) rfl rfl (by kernel_rfl) (by kernel_rfl) (by kernel_rfl) (fun _ _ _ h => h) hS (by rfl) ?hm4x5 ?rm4x5
  case hm4x5 =>
    intro w9 s9
    clear s9
    go_simp
    try (with_reducible rfl)
  simp only [List.setIfInBounds_toArray, List.set_cons_zero, List.set_cons_succ]
  refine held_take (i := 5) 82 (v := ?vm5x6) rfl rfl (by kernel_rfl) (by kernel_rfl) (by kernel_rfl) (fun _ _ _ h => h) hS (by rfl) ?hm5x6 ?rm5x6
  case hm5x6 =>
    intro w9 s9
    clear s9
    go_simp
    try (with_reducible rfl)
  simp only [List.setIfInBounds_toArray, List.set_cons_zero, List.set_cons_succ]
  refine held_take (i := 6) 83 (v := ?vm6x7) rfl rfl (by kernel_rfl) (by kernel_rfl) (by kernel_rfl) (fun _ _ _ h => h) hS (by rfl) ?hm6x7 ?rm6x7
  case hm6x7 =>
    intro w9 s9
    clear s9
    go_simp
    try (with_reducible rfl)
  simp only [List.setIfInBounds_toArray, List.set_cons_zero, List.set_cons_succ]
  refine held_take (i := 7) 84 (v := ?vm7x8) rfl rfl (by kernel_rfl) (by kernel_rfl) (by kernel_rfl) (fun _ _ _ h => h) hS (by rfl) ?hm7x8 ?rm7x8
  case hm7x8 =>
    intro w9 s9
    clear s9
    go_simp
    try (with_reducible rfl)
  simp only [List.setIfInBounds_toArray, List.set_cons_zero, List.set_cons_succ]
  refine held_take (i := 8) 85 (v := ?vm8x9) rfl rfl (by kernel_rfl) (by kernel_rfl) (by kernel_rfl) (fun _ _ _ h => h) hS (by rfl) ?hm8x9 ?rm8x9
  case hm8x9 =>
    intro w9 s9
    clear s9
    go_simp
    try (with_reducible rfl)
  simp only [List.setIfInBounds_toArray, List.set_cons_zero, List.set_cons_succ]
  refine held_take (i := 9) 86 (v := ?vm9x10) rfl rfl (by kernel_rfl) (by kernel_rfl) (by kernel_rfl) (fun _ _ _ h => h) hS (by rfl) ?hm9x10 ?rm9x10
  case hm9x10 =>
    intro w9 s9
    clear s9
    go_simp
    try (with_reducible rfl)
  simp only [List.setIfInBounds_toArray, List.set_cons_zero, List.set_cons_succ]
  refine held_take (i := 10) 87 (v := ?vm10x11) rfl rfl (by kernel_rfl) (by kernel_rfl) (by kernel_rfl) (fun _ _ _ h => h) hS (by rfl) ?hm10x11 ?rm10x11
  case hm10x11 =>
    intro w9 s9
    clear s9
    go_simp
    try (with_reducible rfl)
  simp only [List.setIfInBounds_toArray, List.set_cons_zero, List.set_cons_succ]
  refine held_take (i := 11) 88 (v := ?vm11x12) rfl rfl (by kernel_rfl) (by kernel_rfl) (by kernel_rfl) (fun _ _ _ h => h) hS (by rfl) ?hm11x12 ?rm11x12
  case hm11x12 =>
    intro w9 s9
    have X9 := kept XC.out s9
    have c0 : w9.cell? ⟨w8.heap.size, 0, none⟩ = some (.bool B.leaf) := by rw [Go.Joins.cell_of_block X9]; rfl
    have c1 : w9.cell? ⟨w8.heap.size, 1, none⟩ = some (.slice bk B.K.length dk) := by rw [Go.Joins.cell_of_block X9]; rfl
    have c2 : w9.cell? ⟨w8.heap.size, 2, none⟩ = some (.slice bv B.V.length dv) := by rw [Go.Joins.cell_of_block X9]; rfl
    have c3 : w9.cell? ⟨w8.heap.size, 3, none⟩ = some (.slice bc B.C.length dc) := by rw [Go.Joins.cell_of_block X9]; rfl
    clear s9
    go_simp
    try (with_reducible rfl)
  simp only [List.setIfInBounds_toArray, List.set_cons_zero, List.set_cons_succ]
  refine held_take (i := 13) 90 (v := ?vm13x13) rfl rfl (by kernel_rfl) (by kernel_rfl) (by kernel_rfl) (fun _ _ _ h => h) hS (by rfl) ?hm13x13 ?rm13x13
  case hm13x13 =>
    intro w9 s9
    clear s9
    go_simp
    try (with_reducible rfl)
  simp only [List.setIfInBounds_toArray, List.set_cons_zero, List.set_cons_succ]
  refine held_take (i := 14) 91 (v := ?vm14x14) rfl rfl (by kernel_rfl) (by kernel_rfl) (by kernel_rfl) (fun _ _ _ h => h) hS (by rfl) ?hm14x14 ?rm14x14
  case hm14x14 =>
    intro w9 s9
    have X9 := kept XC.out s9
    have c0 : w9.cell? ⟨w8.heap.size, 0, none⟩ = some (.bool B.leaf) := by rw [Go.Joins.cell_of_block X9]; rfl
    have c1 : w9.cell? ⟨w8.heap.size, 1, none⟩ = some (.slice bk B.K.length dk) := by rw [Go.Joins.cell_of_block X9]; rfl
    have c2 : w9.cell? ⟨w8.heap.size, 2, none⟩ = some (.slice bv B.V.length dv) := by rw [Go.Joins.cell_of_block X9]; rfl
    have c3 : w9.cell? ⟨w8.heap.size, 3, none⟩ = some (.slice bc B.C.length dc) := by rw [Go.Joins.cell_of_block X9]; rfl
    clear s9
    go_simp
    try (with_reducible rfl)
  simp only [List.setIfInBounds_toArray, List.set_cons_zero, List.set_cons_succ]
  refine held_take (i := 15) 92 (v := ?vm15x15) rfl rfl (by kernel_rfl) (by kernel_rfl) (by kernel_rfl) (fun _ _ _ h => h) hS (by rfl) ?hm15x15 ?rm15x15
  case hm15x15 =>
    intro w9 s9
    clear s9
    go_simp
    try (with_reducible rfl)
  simp only [List.setIfInBounds_toArray, List.set_cons_zero, List.set_cons_succ]
  refine held_take (i := 16) 93 (v := ?vm16x16) rfl rfl (by kernel_rfl) (by kernel_rfl) (by kernel_rfl) (fun _ _ _ h => h) hS (by rfl) ?hm16x16 ?rm16x16
  case hm16x16 =>
    intro w9 s9
    clear s9
    go_simp
    try (with_reducible rfl)
  simp only [List.setIfInBounds_toArray, List.set_cons_zero, List.set_cons_succ]
  refine held_take (i := 17) 94 (v := ?vm17x17) rfl rfl (by kernel_rfl) (by kernel_rfl) (by kernel_rfl) (fun _ _ _ h => h) hS (by rfl) ?hm17x17 ?rm17x17
  case hm17x17 =>
    intro w9 s9
    clear s9
    go_simp
    try (with_reducible rfl)
  simp only [List.setIfInBounds_toArray, List.set_cons_zero, List.set_cons_succ]
  refine held_step (i := 12) rfl (by kernel_rfl) (fun K hK => ?_)
  have HK := Lib.hid hK
  clear hK
  go_simp
  go_wp2_with fail
  refine (SB.out _ _ _ _ _ _ _ (RC.out.below hS)).mono ?_
  rintro e m5 ⟨rfl, b5⟩
  refine HK.out _ _ ?_ ?_
  · exact chain hS b5
  clear HK K
  try simp only [Act.put, List.setIfInBounds_toArray, List.set_cons_zero, List.set_cons_succ]
  have hS9 := chain hS b5
  clear hS
  have hS := hS9
  clear hS9
  clear b5
  refine held_take (i := 18) 95 (v := ?vm18x18) rfl rfl (by kernel_rfl) (by kernel_rfl) (by kernel_rfl) (fun _ _ _ h => h) hS (by rfl) ?hm18x18 ?rm18x18
  case hm18x18 =>
    intro w9 s9
    clear s9
    go_simp
    try (with_reducible rfl)
  simp only [List.setIfInBounds_toArray, List.set_cons_zero, List.set_cons_succ]
  refine held_take (i := 19) 96 (v := ?vm19x19) rfl rfl (by kernel_rfl) (by kernel_rfl) (by kernel_rfl) (fun _ _ _ h => h) hS (by rfl) ?hm19x19 ?rm19x19
  case hm19x19 =>
    intro w9 s9
    clear s9
    go_simp
    try (with_reducible rfl)
  simp only [List.setIfInBounds_toArray, List.set_cons_zero, List.set_cons_succ]
  refine held_take (i := 20) 6 (v := ?vm20x20) rfl rfl (by kernel_rfl) (by kernel_rfl) (by kernel_rfl) (fun _ _ _ h => h) hS (by rfl) ?hm20x20 ?rm20x20
  case hm20x20 =>
    intro w9 s9
    clear s9
    go_simp
    try (with_reducible rfl)
  simp only [List.setIfInBounds_toArray, List.set_cons_zero, List.set_cons_succ]
  refine wpAnyH_done (by kernel_rfl) ?_ _
  have H14 := Lib.hid hS
  clear hS
  go_wp2_with fail
  go_ret
  exact ⟨rfl, chain BC.out H14.out⟩

set_option maxHeartbeats 6400000 in
set_option maxRecDepth 20000 in
theorem sizes_t (a : Option Addr) (cap : Nat) (L : List (Int × ByteArray)) (key : Int) (v : ByteArray) (w : World) (hL : Prs w a L) (hk : ∀ p ∈ L, 0 ≤ p.1 ∧ p.1 ≤ 18446744073709551615) (hs : ∀ p ∈ L, p.2.size ≤ 9223372036854775807) (hkey : 0 ≤ key ∧ key ≤ 18446744073709551615)  (hfd : (findN (growN L 20) key).2 = true) :
    Calls Try.prog 9 #[.slice a L.length cap, .int .u64 key, .string v] w fun e w' => e = .returned (.bool true) ∧ Below w.heap.size w w' := by
  have EX := Lib.hid (examples_yes w)
  have GR := Lib.hid (fun w' (hb : Below w.heap.size w w') => grow_any a cap L w' (hL.below hb) hk hs)
  have BR := Lib.hid (fun w' (hb : Below w.heap.size w w') => branch_any a cap L w' (hL.below hb) hk)
  have gl := growN_leaf L 20
  have bl := branchN_ok L (min L.length 20)
  have hx : v.extract 0 (min (v.size : Int) 40).toNat = cut40 v := by unfold cut40; rw [show (min (v.size : Int) 40).toNat = min v.size 40 from by omega]
  have hc40 := cut40_le v
  generalize growN L 20 = N at *
  generalize branchN L (min L.length 20) = B at *
  generalize L.length = ln at *
  obtain ⟨x, hxx⟩ : ∃ x, cut40 v = x := ⟨_, rfl⟩
  rw [hxx] at hx hc40
  have hpc := put_cost N key x gl.1 gl.2.1
  rw [hfd] at hpc
  obtain ⟨p, hp⟩ : ∃ p, (findN N key).1 = p := ⟨_, rfl⟩
  rw [hp] at hpc
  have hfn : findN N key = (p, true) := by rw [← hp, ← hfd]
  obtain ⟨q, hq⟩ : ∃ q, (findN B key).1 = q := ⟨_, rfl⟩
  obtain ⟨qo, hqo⟩ : ∃ qo, (findN B key).2 = qo := ⟨_, rfl⟩
  have hqn : findN B key = (q, qo) := by rw [← hq, ← hqo]
  have hql := findN_le B key
  rw [hq] at hql
  have hhs := hang_size B q key 9 bl.1 bl.2.1 hql
  have hhg := hang_whole B (q : Int) key 9 bl.1 bl.2.1
  have hlen : B.K.length ≤ 20 := by have := bl.2.2; omega
  have hsb : (sizeN B : Int) = 3 + 10 * (B.K.length : Int) := by
    have := (wholeB_branch bl.1).1 bl.2.1
    unfold sizeN
    rw [bl.1]
    simp only [Bool.false_eq_true, if_false]
    omega
  have hpl := findN_lt N key (by rw [hfn]) gl.1
  rw [hp] at hpl
  have hvl := (wholeB_leaf gl.1).1 gl.2.1
  have hpv : p < N.V.length := by omega
  have hpi : (p : Int) < (N.V.length : Int) := by omega
  have FN := Lib.hid (fun ak av ac ck cv cc w' (h : NodR w' N ak av ac ck cv cc) => find_is N ak av ac ck cv cc w' h key p true (Lib.hid hfn))
  have FB := Lib.hid (fun ak av ac ck cv cc w' (h : NodR w' B ak av ac ck cv cc) => find_is B ak av ac ck cv cc w' h key q qo (Lib.hid hqn))
  have PT := Lib.hid (fun ak av ac ck cv cc w' (h : NodR w' N ak av ac ck cv cc) => put_is N ak av ac ck cv cc w' h key x gl.1 gl.2.1 (by have := gl.2.2; omega) hkey (by omega))
  have HN := Lib.hid (fun ak av ac ck cv cc w' (h : NodR w' B ak av ac ck cv cc) => hang_is B ak av ac ck cv cc w' h q key 9 bl.1 bl.2.1 hql (by omega) hkey (by decide))
  have SN := Lib.hid (fun ak av ac ck cv cc w' (h : NodR w' N ak av ac ck cv cc) => size_is N ak av ac ck cv cc w' h _ (Lib.hid rfl) gl.2.1)
  have SP := Lib.hid (fun ak av ac ck cv cc w' (h : NodR w' (putN N key x) ak av ac ck cv cc) => size_is _ ak av ac ck cv cc w' h _ (Lib.hid rfl) (put_whole N key x gl.1 gl.2.1))
  have SB := Lib.hid (fun ak av ac ck cv cc w' (h : NodR w' B ak av ac ck cv cc) => size_is B ak av ac ck cv cc w' h _ (Lib.hid rfl) bl.2.1)
  have SH := Lib.hid (fun ak av ac ck cv cc w' (h : NodR w' (hangN B (q : Int) key 9) ak av ac ck cv cc) => size_is _ ak av ac ck cv cc w' h _ (Lib.hid rfl) hhg.2)
  rw [hsb] at SB hhs
  generalize putN N key x = PN at *
  generalize hangN B (q : Int) key 9 = HB at *
  generalize sizeN PN = zp at *
  generalize sizeN N = zn at *
  generalize sizeN HB = zh at *
  have hw1 : IntKind.i64.wrap (9 + (x.size : Int)) = 9 + (x.size : Int) := IntWalk.i64_in _ (by omega)
  have hw2 : IntKind.i64.wrap ((zh : Int) - (3 + 10 * (B.K.length : Int))) = 10 := by rw [hhs]; exact IntWalk.i64_in _ (by omega)
  have hw3 : IntKind.i64.wrap (10 * (B.K.length : Int)) = 10 * (B.K.length : Int) := IntWalk.i64_in _ (by omega)
  have hw4 : IntKind.i64.wrap (3 + 10 * (B.K.length : Int)) = 3 + 10 * (B.K.length : Int) := IntWalk.i64_in _ (by omega)
  have hgd : N.V.getD p ByteArray.empty = N.V[p] := by rw [List.getD_eq_getElem?_getD, List.getElem?_eq_getElem hpv]; rfl
  rw [hgd] at hpc
  simp only [if_true] at hpc
  have HVP := Lib.hid (fun (w' : World) (a' : Option Addr) (h : Rd w' a' (N.V.map Value.string)) => h.at p (by rw [List.length_map]; exact hpv))
  have HU : ∀ (ak av ac : Option Addr) (ck cv cc : Nat) (w' : World), NodR w' N ak av ac ck cv cc → N.V[p].size ≤ 140737488351232 := fun ak av ac ck cv cc w' h => h.ok.vb _ (List.getElem_mem hpv)
  simp only [List.getElem_map] at HVP
  generalize N.V[p] = u at *
  have HUH := Lib.hid HU
  have HC40 := Lib.hid hc40
  have HPC := Lib.hid hpc
  clear HU hgd hpv hpl hvl hpc
  have HW0 : Hid (Below w.heap.size w w) := Lib.hid (Below.refl _ _)
  clear hL hk hs hkey gl bl hc40 hfd hp hfn hq hqo hqn hql hhs hhg hlen hsb hxx
  go_enter Try.func9, Try.ntmps9
  go_wp2_with fail
  refine EX.out.mono ?_
  rintro e w1 ⟨rfl, b1⟩
  have B1 := Lib.hid b1
  clear b1 EX
  go_wp2_with fail
  clear hx HW0
  refine (GR.out _ B1.out).mono ?_
  rintro e w2 ⟨⟨ak, av, ac, ck, cv, cc, rfl, hR2, -, -, -⟩, b2⟩
  have B2 := Lib.hid (chain B1.out b2)
  have R2 := Lib.hid hR2
  clear b2 hR2 GR B1
  simp only [nodV]
  go_wp2_with fail
  obtain ⟨w3, hw3'⟩ : ∃ w3, w2.alloc (.cells #[.bool N.leaf, .slice ak N.K.length ck, .slice av N.V.length cv, .slice ac N.C.length cc] 26) = w3 := ⟨_, rfl⟩
  rw [hw3']
  have b3 : Below w2.heap.size w2 w3 := by rw [← hw3']; exact below_made _ _
  have X3 : Hid (w3.heap[w2.heap.size]? = some (.cells #[.bool N.leaf, .slice ak N.K.length ck, .slice av N.V.length cv, .slice ac N.C.length cc] 26)) := Lib.hid (by rw [← hw3']; exact heap_alloc_new _ _)
  have R3 := Lib.hid (R2.out.below b3)
  have B3 := Lib.hid (chain B2.out b3)
  clear hw3' b3 R2 B2
  have y0 : w3.cell? ⟨w2.heap.size, 0, none⟩ = some (.bool N.leaf) := by rw [Go.Joins.cell_of_block X3.out]; rfl
  have y1 : w3.cell? ⟨w2.heap.size, 1, none⟩ = some (.slice ak N.K.length ck) := by rw [Go.Joins.cell_of_block X3.out]; rfl
  have y2 : w3.cell? ⟨w2.heap.size, 2, none⟩ = some (.slice av N.V.length cv) := by rw [Go.Joins.cell_of_block X3.out]; rfl
  have y3 : w3.cell? ⟨w2.heap.size, 3, none⟩ = some (.slice ac N.C.length cc) := by rw [Go.Joins.cell_of_block X3.out]; rfl
  go_wp2_with fail
  refine (FN.out _ _ _ _ _ _ _ R3.out).mono ?_
  rintro e w4 ⟨rfl, b4⟩
  have X4 := Lib.hid (kept X3.out b4)
  have R4 := Lib.hid (R3.out.below b4)
  have B4 := Lib.hid (chain B3.out b4)
  clear b4 X3 R3 B3 FN y0 y1 y2 y3
  go_wp2_with fail
  have hu := HUH.out _ _ _ _ _ _ _ R4.out
  have hpc := HPC.out
  have hc40 := HC40.out
  have hw5 : IntKind.i64.wrap ((zp : Int) - (zn : Int)) = (x.size : Int) - (u.size : Int) := by rw [hpc]; exact IntWalk.i64_in _ (by omega)
  have hw6 : IntKind.i64.wrap ((x.size : Int) - (u.size : Int)) = (x.size : Int) - (u.size : Int) := IntWalk.i64_in _ (by omega)
  clear hu hpc hc40 HC40 HUH HPC
  refine wp_region_held_drew (S := fun w' => Below w4.heap.size w4 w') (by kernel_rfl) (Below.refl w4.heap.size w4).drew (fun hS => ?_)
  refine held_take (i := 0) 33 (v := ?vg0x1) rfl rfl (by kernel_rfl) (by kernel_rfl) (by kernel_rfl) (fun _ _ _ h => h) hS (by rfl) ?hg0x1 ?rg0x1
  case hg0x1 =>
    intro w9 s9
    have X9 := kept X4.out s9
    have c0 : w9.cell? ⟨w2.heap.size, 0, none⟩ = some (.bool N.leaf) := by rw [Go.Joins.cell_of_block X9]; rfl
    have c1 : w9.cell? ⟨w2.heap.size, 1, none⟩ = some (.slice ak N.K.length ck) := by rw [Go.Joins.cell_of_block X9]; rfl
    have c2 : w9.cell? ⟨w2.heap.size, 2, none⟩ = some (.slice av N.V.length cv) := by rw [Go.Joins.cell_of_block X9]; rfl
    have c3 : w9.cell? ⟨w2.heap.size, 3, none⟩ = some (.slice ac N.C.length cc) := by rw [Go.Joins.cell_of_block X9]; rfl
    clear s9
    go_simp
    try (with_reducible rfl)
  simp only [List.setIfInBounds_toArray, List.set_cons_zero, List.set_cons_succ]
  refine held_take (i := 1) 34 (v := ?vg1x2) rfl rfl (by kernel_rfl) (by kernel_rfl) (by kernel_rfl) (fun _ _ _ h => h) hS (by rfl) ?hg1x2 ?rg1x2
  case hg1x2 =>
    intro w9 s9
    clear s9
    go_simp
    try (with_reducible rfl)
  simp only [List.setIfInBounds_toArray, List.set_cons_zero, List.set_cons_succ]
  refine held_take (i := 2) 35 (v := ?vg2x3) rfl rfl (by kernel_rfl) (by kernel_rfl) (by kernel_rfl) (fun _ _ _ h => h) hS (by rfl) ?hg2x3 ?rg2x3
  case hg2x3 =>
    intro w9 s9
    clear s9
    go_simp
    try (with_reducible rfl)
  simp only [List.setIfInBounds_toArray, List.set_cons_zero, List.set_cons_succ]
  refine held_take (i := 5) 38 (v := ?vg5x4) rfl rfl (by kernel_rfl) (by kernel_rfl) (by kernel_rfl) (fun _ _ _ h => h) hS (by rfl) ?hg5x4 ?rg5x4
  case hg5x4 =>
    intro w9 s9
    have X9 := kept X4.out s9
    have c0 : w9.cell? ⟨w2.heap.size, 0, none⟩ = some (.bool N.leaf) := by rw [Go.Joins.cell_of_block X9]; rfl
    have c1 : w9.cell? ⟨w2.heap.size, 1, none⟩ = some (.slice ak N.K.length ck) := by rw [Go.Joins.cell_of_block X9]; rfl
    have c2 : w9.cell? ⟨w2.heap.size, 2, none⟩ = some (.slice av N.V.length cv) := by rw [Go.Joins.cell_of_block X9]; rfl
    have c3 : w9.cell? ⟨w2.heap.size, 3, none⟩ = some (.slice ac N.C.length cc) := by rw [Go.Joins.cell_of_block X9]; rfl
    clear s9
    go_simp
    try (with_reducible rfl)
  simp only [List.setIfInBounds_toArray, List.set_cons_zero, List.set_cons_succ]
  refine held_step (i := 3) rfl (by kernel_rfl) (fun K hK => ?_)
  have HK := Lib.hid hK
  clear hK
  go_simp
  go_wp2_with fail
  refine (PT.out _ _ _ _ _ _ _ (R4.out.below hS)).mono ?_
  rintro e g5 ⟨⟨gk, gv, gc, ga, gb, gd, rfl, hPR, -, -, -⟩, b5⟩
  have hPRH := Lib.hid hPR
  clear hPR
  simp only [nodV]
  refine HK.out _ _ ?_ ?_
  · exact chain hS b5
  clear HK K
  try simp only [Act.put, List.setIfInBounds_toArray, List.set_cons_zero, List.set_cons_succ]
  have hS9 := chain hS b5
  clear hS
  have hS := hS9
  clear hS9
  clear b5
  refine held_step (i := 4) rfl (by kernel_rfl) (fun K hK => ?_)
  have HK := Lib.hid hK
  clear hK
  go_simp
  go_wp2_with fail
  refine (SP.out _ _ _ _ _ _ _ hPRH.out).mono ?_
  rintro e g6 ⟨rfl, b6⟩
  refine HK.out _ _ ?_ ?_
  · exact chain hS b6
  clear HK K
  try simp only [Act.put, List.setIfInBounds_toArray, List.set_cons_zero, List.set_cons_succ]
  have hS9 := chain hS b6
  clear hS
  have hS := hS9
  clear hS9
  clear b6
  refine held_step (i := 6) rfl (by kernel_rfl) (fun K hK => ?_)
  have HK := Lib.hid hK
  clear hK
  go_simp
  go_wp2_with fail
  refine (SN.out _ _ _ _ _ _ _ (R4.out.below hS)).mono ?_
  rintro e g7 ⟨rfl, b7⟩
  refine HK.out _ _ ?_ ?_
  · exact chain hS b7
  clear HK K
  try simp only [Act.put, List.setIfInBounds_toArray, List.set_cons_zero, List.set_cons_succ]
  have hS9 := chain hS b7
  clear hS
  have hS := hS9
  clear hS9
  clear b7
  refine held_take (i := 7) 40 (v := ?vg7x5) rfl rfl (by kernel_rfl) (by kernel_rfl) (by kernel_rfl) (fun _ _ _ h => h) hS (by rfl) ?hg7x5 ?rg7x5
  case hg7x5 =>
    intro w9 s9
    clear s9
    go_simp
    try (with_reducible rfl)
  simp only [List.setIfInBounds_toArray, List.set_cons_zero, List.set_cons_succ]
  refine held_take (i := 8) 11 (v := ?vg8x6) rfl rfl (by kernel_rfl) (by kernel_rfl) (by kernel_rfl) (fun _ _ _ h => h) hS (by rfl) ?hg8x6 ?rg8x6
  case hg8x6 =>
    intro w9 s9
    clear s9
    go_simp
    try (with_reducible rfl)
  simp only [List.setIfInBounds_toArray, List.set_cons_zero, List.set_cons_succ]
  refine wpAnyH_done (by kernel_rfl) ?_ _
  have H7 := Lib.hid hS
  clear hS
  have X7 := Lib.hid (kept X4.out H7.out)
  have R7 := Lib.hid (R4.out.below H7.out)
  have B7 := Lib.hid (chain B4.out H7.out)
  clear X4 R4 B4 H7 PT SP SN hPRH hw5
  have y0 : g7.cell? ⟨w2.heap.size, 0, none⟩ = some (.bool N.leaf) := by rw [Go.Joins.cell_of_block X7.out]; rfl
  have y1 : g7.cell? ⟨w2.heap.size, 1, none⟩ = some (.slice ak N.K.length ck) := by rw [Go.Joins.cell_of_block X7.out]; rfl
  have y2 : g7.cell? ⟨w2.heap.size, 2, none⟩ = some (.slice av N.V.length cv) := by rw [Go.Joins.cell_of_block X7.out]; rfl
  have y3 : g7.cell? ⟨w2.heap.size, 3, none⟩ = some (.slice ac N.C.length cc) := by rw [Go.Joins.cell_of_block X7.out]; rfl
  obtain ⟨vb, vo, rfl, hvb, hvc⟩ := HVP.out _ _ R7.out.v
  go_wp2_with fail
  refine (BR.out _ B7.out).mono ?_
  rintro e w8 ⟨⟨bk, bv, bc, dk, dv, dc, rfl, hR8, -, -, -⟩, b8⟩
  have B8 := Lib.hid (chain B7.out b8)
  have R8 := Lib.hid hR8
  clear b8 hR8 BR B7 X7 R7 y0 y1 y2 y3
  simp only [nodV]
  go_wp2_with fail
  obtain ⟨w9', hw9'⟩ : ∃ w9', w8.alloc (.cells #[.bool B.leaf, .slice bk B.K.length dk, .slice bv B.V.length dv, .slice bc B.C.length dc] 26) = w9' := ⟨_, rfl⟩
  rw [hw9']
  have b9 : Below w8.heap.size w8 w9' := by rw [← hw9']; exact below_made _ _
  have X9' : Hid (w9'.heap[w8.heap.size]? = some (.cells #[.bool B.leaf, .slice bk B.K.length dk, .slice bv B.V.length dv, .slice bc B.C.length dc] 26)) := Lib.hid (by rw [← hw9']; exact heap_alloc_new _ _)
  have R9 := Lib.hid (R8.out.below b9)
  have B9 := Lib.hid (chain B8.out b9)
  clear hw9' b9 R8 B8
  have y0 : w9'.cell? ⟨w8.heap.size, 0, none⟩ = some (.bool B.leaf) := by rw [Go.Joins.cell_of_block X9'.out]; rfl
  have y1 : w9'.cell? ⟨w8.heap.size, 1, none⟩ = some (.slice bk B.K.length dk) := by rw [Go.Joins.cell_of_block X9'.out]; rfl
  have y2 : w9'.cell? ⟨w8.heap.size, 2, none⟩ = some (.slice bv B.V.length dv) := by rw [Go.Joins.cell_of_block X9'.out]; rfl
  have y3 : w9'.cell? ⟨w8.heap.size, 3, none⟩ = some (.slice bc B.C.length dc) := by rw [Go.Joins.cell_of_block X9'.out]; rfl
  go_wp2_with fail
  refine (FB.out _ _ _ _ _ _ _ R9.out).mono ?_
  rintro e wa ⟨rfl, ba⟩
  have XA := Lib.hid (kept X9'.out ba)
  have RA := Lib.hid (R9.out.below ba)
  have BA := Lib.hid (chain B9.out ba)
  clear ba X9' R9 B9 FB y0 y1 y2 y3
  go_wp2_with fail
  refine wp_region_held_drew (S := fun w' => Below wa.heap.size wa w') (by kernel_rfl) (Below.refl wa.heap.size wa).drew (fun hS => ?_)
  refine held_take (i := 0) 69 (v := ?vk0x1) rfl rfl (by kernel_rfl) (by kernel_rfl) (by kernel_rfl) (fun _ _ _ h => h) hS (by rfl) ?hk0x1 ?rk0x1
  case hk0x1 =>
    intro w9 s9
    have X9 := kept XA.out s9
    have c0 : w9.cell? ⟨w8.heap.size, 0, none⟩ = some (.bool B.leaf) := by rw [Go.Joins.cell_of_block X9]; rfl
    have c1 : w9.cell? ⟨w8.heap.size, 1, none⟩ = some (.slice bk B.K.length dk) := by rw [Go.Joins.cell_of_block X9]; rfl
    have c2 : w9.cell? ⟨w8.heap.size, 2, none⟩ = some (.slice bv B.V.length dv) := by rw [Go.Joins.cell_of_block X9]; rfl
    have c3 : w9.cell? ⟨w8.heap.size, 3, none⟩ = some (.slice bc B.C.length dc) := by rw [Go.Joins.cell_of_block X9]; rfl
    clear s9
    go_simp
    try (with_reducible rfl)
  simp only [List.setIfInBounds_toArray, List.set_cons_zero, List.set_cons_succ]
  refine held_take (i := 1) 70 (v := ?vk1x2) rfl rfl (by kernel_rfl) (by kernel_rfl) (by kernel_rfl) (fun _ _ _ h => h) hS (by rfl) ?hk1x2 ?rk1x2
  case hk1x2 =>
    intro w9 s9
    clear s9
    go_simp
    try (with_reducible rfl)
  simp only [List.setIfInBounds_toArray, List.set_cons_zero, List.set_cons_succ]
  refine held_take (i := 2) 71 (v := ?vk2x3) rfl rfl (by kernel_rfl) (by kernel_rfl) (by kernel_rfl) (fun _ _ _ h => h) hS (by rfl) ?hk2x3 ?rk2x3
  case hk2x3 =>
    intro w9 s9
    clear s9
    go_simp
    try (with_reducible rfl)
  simp only [List.setIfInBounds_toArray, List.set_cons_zero, List.set_cons_succ]
  refine held_take (i := 5) 74 (v := ?vk5x4) rfl rfl (by kernel_rfl) (by kernel_rfl) (by kernel_rfl) (fun _ _ _ h => h) hS (by rfl) ?hk5x4 ?rk5x4
  case hk5x4 =>
    intro w9 s9
    have X9 := kept XA.out s9
    have c0 : w9.cell? ⟨w8.heap.size, 0, none⟩ = some (.bool B.leaf) := by rw [Go.Joins.cell_of_block X9]; rfl
    have c1 : w9.cell? ⟨w8.heap.size, 1, none⟩ = some (.slice bk B.K.length dk) := by rw [Go.Joins.cell_of_block X9]; rfl
    have c2 : w9.cell? ⟨w8.heap.size, 2, none⟩ = some (.slice bv B.V.length dv) := by rw [Go.Joins.cell_of_block X9]; rfl
    have c3 : w9.cell? ⟨w8.heap.size, 3, none⟩ = some (.slice bc B.C.length dc) := by rw [Go.Joins.cell_of_block X9]; rfl
    clear s9
    go_simp
    try (with_reducible rfl)
  simp only [List.setIfInBounds_toArray, List.set_cons_zero, List.set_cons_succ]
  refine held_step (i := 3) rfl (by kernel_rfl) (fun K hK => ?_)
  have HK := Lib.hid hK
  clear hK
  go_simp
  go_wp2_with fail
  refine (HN.out _ _ _ _ _ _ _ (RA.out.below hS)).mono ?_
  rintro e k5 ⟨⟨kk, kv, kc, ka, kb, kd, rfl, hHR, -, -, -⟩, b5⟩
  have hHRH := Lib.hid hHR
  clear hHR
  simp only [nodV]
  refine HK.out _ _ ?_ ?_
  · exact chain hS b5
  clear HK K
  try simp only [Act.put, List.setIfInBounds_toArray, List.set_cons_zero, List.set_cons_succ]
  have hS9 := chain hS b5
  clear hS
  have hS := hS9
  clear hS9
  clear b5
  refine held_step (i := 4) rfl (by kernel_rfl) (fun K hK => ?_)
  have HK := Lib.hid hK
  clear hK
  go_simp
  go_wp2_with fail
  refine (SH.out _ _ _ _ _ _ _ hHRH.out).mono ?_
  rintro e k6 ⟨rfl, b6⟩
  refine HK.out _ _ ?_ ?_
  · exact chain hS b6
  clear HK K
  try simp only [Act.put, List.setIfInBounds_toArray, List.set_cons_zero, List.set_cons_succ]
  have hS9 := chain hS b6
  clear hS
  have hS := hS9
  clear hS9
  clear b6
  refine held_step (i := 6) rfl (by kernel_rfl) (fun K hK => ?_)
  have HK := Lib.hid hK
  clear hK
  go_simp
  go_wp2_with fail
  refine (SB.out _ _ _ _ _ _ _ (RA.out.below hS)).mono ?_
  rintro e k7 ⟨rfl, b7⟩
  refine HK.out _ _ ?_ ?_
  · exact chain hS b7
  clear HK K
  try simp only [Act.put, List.setIfInBounds_toArray, List.set_cons_zero, List.set_cons_succ]
  have hS9 := chain hS b7
  clear hS
  have hS := hS9
  clear hS9
  clear b7
  refine held_take (i := 7) 76 (v := ?vk7x5) rfl rfl (by kernel_rfl) (by kernel_rfl) (by kernel_rfl) (fun _ _ _ h => h) hS (by rfl) ?hk7x5 ?rk7x5
  case hk7x5 =>
    intro w9 s9
    clear s9
    go_simp
    try (with_reducible rfl)
  simp only [List.setIfInBounds_toArray, List.set_cons_zero, List.set_cons_succ]
  refine held_take (i := 8) 16 (v := ?vk8x6) rfl rfl (by kernel_rfl) (by kernel_rfl) (by kernel_rfl) (fun _ _ _ h => h) hS (by rfl) ?hk8x6 ?rk8x6
  case hk8x6 =>
    intro w9 s9
    clear s9
    go_simp
    try (with_reducible rfl)
  simp only [List.setIfInBounds_toArray, List.set_cons_zero, List.set_cons_succ]
  refine wpAnyH_done (by kernel_rfl) ?_ _
  have H13 := Lib.hid hS
  clear hS
  have XC := Lib.hid (kept XA.out H13.out)
  have RC := Lib.hid (RA.out.below H13.out)
  have BC := Lib.hid (chain BA.out H13.out)
  clear XA RA BA H13 HN SH hHRH hw2
  go_wp2_with fail
  refine wp_region_held_drew (S := fun w' => Below k7.heap.size k7 w') (by kernel_rfl) (Below.refl k7.heap.size k7).drew (fun hS => ?_)
  refine held_take (i := 0) 77 (v := ?vm0x1) rfl rfl (by kernel_rfl) (by kernel_rfl) (by kernel_rfl) (fun _ _ _ h => h) hS (by rfl) ?hm0x1 ?rm0x1
  case hm0x1 =>
    intro w9 s9
    clear s9
    go_simp
    try (with_reducible rfl)
  simp only [List.setIfInBounds_toArray, List.set_cons_zero, List.set_cons_succ]
  refine held_take (i := 1) 78 (v := ?vm1x2) rfl rfl (by kernel_rfl) (by kernel_rfl) (by kernel_rfl) (fun _ _ _ h => h) hS (by rfl) ?hm1x2 ?rm1x2
  case hm1x2 =>
    intro w9 s9
    clear s9
    go_simp
    try (with_reducible rfl)
  simp only [List.setIfInBounds_toArray, List.set_cons_zero, List.set_cons_succ]
  refine held_take (i := 2) 79 (v := ?vm2x3) rfl rfl (by kernel_rfl) (by kernel_rfl) (by kernel_rfl) (fun _ _ _ h => h) hS (by rfl) ?hm2x3 ?rm2x3
  case hm2x3 =>
    intro w9 s9
    clear s9
    go_simp
    try (with_reducible rfl)
  simp only [List.setIfInBounds_toArray, List.set_cons_zero, List.set_cons_succ]
  refine held_take (i := 3) 80 (v := ?vm3x4) rfl rfl (by kernel_rfl) (by kernel_rfl) (by kernel_rfl) (fun _ _ _ h => h) hS (by rfl) ?hm3x4 ?rm3x4
  case hm3x4 =>
    intro w9 s9
    clear s9
    go_simp
    try (with_reducible rfl)
  simp only [List.setIfInBounds_toArray, List.set_cons_zero, List.set_cons_succ]
  refine held_take (i := 4) 81 (v := ?vm4x5) rfl rfl (by kernel_rfl) (by kernel_rfl) (by kernel_rfl) (fun _ _ _ h => h) hS (by rfl) ?hm4x5 ?rm4x5
  case hm4x5 =>
    intro w9 s9
    clear s9
    go_simp
    try (with_reducible rfl)
  simp only [List.setIfInBounds_toArray, List.set_cons_zero, List.set_cons_succ]
  refine held_take (i := 5) 82 (v := ?vm5x6) rfl rfl (by kernel_rfl) (by kernel_rfl) (by kernel_rfl) (fun _ _ _ h => h) hS (by rfl) ?hm5x6 ?rm5x6
  case hm5x6 =>
    intro w9 s9
    clear s9
    go_simp
    try (with_reducible rfl)
  simp only [List.setIfInBounds_toArray, List.set_cons_zero, List.set_cons_succ]
  refine held_take (i := 6) 83 (v := ?vm6x7) rfl rfl (by kernel_rfl) (by kernel_rfl) (by kernel_rfl) (fun _ _ _ h => h) hS (by rfl) ?hm6x7 ?rm6x7
  case hm6x7 =>
    intro w9 s9
    clear s9
    go_simp
    try (with_reducible rfl)
  simp only [List.setIfInBounds_toArray, List.set_cons_zero, List.set_cons_succ]
  refine held_take (i := 7) 84 (v := ?vm7x8) rfl rfl (by kernel_rfl) (by kernel_rfl) (by kernel_rfl) (fun _ _ _ h => h) hS (by rfl) ?hm7x8 ?rm7x8
  case hm7x8 =>
    intro w9 s9
    clear s9
    go_simp
    try (with_reducible rfl)
  simp only [List.setIfInBounds_toArray, List.set_cons_zero, List.set_cons_succ]
  refine held_take (i := 8) 85 (v := ?vm8x9) rfl rfl (by kernel_rfl) (by kernel_rfl) (by kernel_rfl) (fun _ _ _ h => h) hS (by rfl) ?hm8x9 ?rm8x9
  case hm8x9 =>
    intro w9 s9
    clear s9
    go_simp
    try (with_reducible rfl)
  simp only [List.setIfInBounds_toArray, List.set_cons_zero, List.set_cons_succ]
  refine held_take (i := 9) 86 (v := ?vm9x10) rfl rfl (by kernel_rfl) (by kernel_rfl) (by kernel_rfl) (fun _ _ _ h => h) hS (by rfl) ?hm9x10 ?rm9x10
  case hm9x10 =>
    intro w9 s9
    clear s9
    go_simp
    try (with_reducible rfl)
  simp only [List.setIfInBounds_toArray, List.set_cons_zero, List.set_cons_succ]
  refine held_take (i := 10) 87 (v := ?vm10x11) rfl rfl (by kernel_rfl) (by kernel_rfl) (by kernel_rfl) (fun _ _ _ h => h) hS (by rfl) ?hm10x11 ?rm10x11
  case hm10x11 =>
    intro w9 s9
    clear s9
    go_simp
    try (with_reducible rfl)
  simp only [List.setIfInBounds_toArray, List.set_cons_zero, List.set_cons_succ]
  refine held_take (i := 11) 88 (v := ?vm11x12) rfl rfl (by kernel_rfl) (by kernel_rfl) (by kernel_rfl) (fun _ _ _ h => h) hS (by rfl) ?hm11x12 ?rm11x12
  case hm11x12 =>
    intro w9 s9
    have X9 := kept XC.out s9
    have c0 : w9.cell? ⟨w8.heap.size, 0, none⟩ = some (.bool B.leaf) := by rw [Go.Joins.cell_of_block X9]; rfl
    have c1 : w9.cell? ⟨w8.heap.size, 1, none⟩ = some (.slice bk B.K.length dk) := by rw [Go.Joins.cell_of_block X9]; rfl
    have c2 : w9.cell? ⟨w8.heap.size, 2, none⟩ = some (.slice bv B.V.length dv) := by rw [Go.Joins.cell_of_block X9]; rfl
    have c3 : w9.cell? ⟨w8.heap.size, 3, none⟩ = some (.slice bc B.C.length dc) := by rw [Go.Joins.cell_of_block X9]; rfl
    clear s9
    go_simp
    try (with_reducible rfl)
  simp only [List.setIfInBounds_toArray, List.set_cons_zero, List.set_cons_succ]
  refine held_take (i := 13) 90 (v := ?vm13x13) rfl rfl (by kernel_rfl) (by kernel_rfl) (by kernel_rfl) (fun _ _ _ h => h) hS (by rfl) ?hm13x13 ?rm13x13
  case hm13x13 =>
    intro w9 s9
    clear s9
    go_simp
    try (with_reducible rfl)
  simp only [List.setIfInBounds_toArray, List.set_cons_zero, List.set_cons_succ]
  refine held_take (i := 14) 91 (v := ?vm14x14) rfl rfl (by kernel_rfl) (by kernel_rfl) (by kernel_rfl) (fun _ _ _ h => h) hS (by rfl) ?hm14x14 ?rm14x14
  case hm14x14 =>
    intro w9 s9
    have X9 := kept XC.out s9
    have c0 : w9.cell? ⟨w8.heap.size, 0, none⟩ = some (.bool B.leaf) := by rw [Go.Joins.cell_of_block X9]; rfl
    have c1 : w9.cell? ⟨w8.heap.size, 1, none⟩ = some (.slice bk B.K.length dk) := by rw [Go.Joins.cell_of_block X9]; rfl
    have c2 : w9.cell? ⟨w8.heap.size, 2, none⟩ = some (.slice bv B.V.length dv) := by rw [Go.Joins.cell_of_block X9]; rfl
    have c3 : w9.cell? ⟨w8.heap.size, 3, none⟩ = some (.slice bc B.C.length dc) := by rw [Go.Joins.cell_of_block X9]; rfl
    clear s9
    go_simp
    try (with_reducible rfl)
  simp only [List.setIfInBounds_toArray, List.set_cons_zero, List.set_cons_succ]
  refine held_take (i := 15) 92 (v := ?vm15x15) rfl rfl (by kernel_rfl) (by kernel_rfl) (by kernel_rfl) (fun _ _ _ h => h) hS (by rfl) ?hm15x15 ?rm15x15
  case hm15x15 =>
    intro w9 s9
    clear s9
    go_simp
    try (with_reducible rfl)
  simp only [List.setIfInBounds_toArray, List.set_cons_zero, List.set_cons_succ]
  refine held_take (i := 16) 93 (v := ?vm16x16) rfl rfl (by kernel_rfl) (by kernel_rfl) (by kernel_rfl) (fun _ _ _ h => h) hS (by rfl) ?hm16x16 ?rm16x16
  case hm16x16 =>
    intro w9 s9
    clear s9
    go_simp
    try (with_reducible rfl)
  simp only [List.setIfInBounds_toArray, List.set_cons_zero, List.set_cons_succ]
  refine held_take (i := 17) 94 (v := ?vm17x17) rfl rfl (by kernel_rfl) (by kernel_rfl) (by kernel_rfl) (fun _ _ _ h => h) hS (by rfl) ?hm17x17 ?rm17x17
  case hm17x17 =>
    intro w9 s9
    clear s9
    go_simp
    try (with_reducible rfl)
  simp only [List.setIfInBounds_toArray, List.set_cons_zero, List.set_cons_succ]
  refine held_step (i := 12) rfl (by kernel_rfl) (fun K hK => ?_)
  have HK := Lib.hid hK
  clear hK
  go_simp
  go_wp2_with fail
  refine (SB.out _ _ _ _ _ _ _ (RC.out.below hS)).mono ?_
  rintro e m5 ⟨rfl, b5⟩
  refine HK.out _ _ ?_ ?_
  · exact chain hS b5
  clear HK K
  try simp only [Act.put, List.setIfInBounds_toArray, List.set_cons_zero, List.set_cons_succ]
  have hS9 := chain hS b5
  clear hS
  have hS := hS9
  clear hS9
  clear b5
  refine held_take (i := 18) 95 (v := ?vm18x18) rfl rfl (by kernel_rfl) (by kernel_rfl) (by kernel_rfl) (fun _ _ _ h => h) hS (by rfl) ?hm18x18 ?rm18x18
  case hm18x18 =>
    intro w9 s9
    clear s9
    go_simp
    try (with_reducible rfl)
  simp only [List.setIfInBounds_toArray, List.set_cons_zero, List.set_cons_succ]
  refine held_take (i := 19) 96 (v := ?vm19x19) rfl rfl (by kernel_rfl) (by kernel_rfl) (by kernel_rfl) (fun _ _ _ h => h) hS (by rfl) ?hm19x19 ?rm19x19
  case hm19x19 =>
    intro w9 s9
    clear s9
    go_simp
    try (with_reducible rfl)
  simp only [List.setIfInBounds_toArray, List.set_cons_zero, List.set_cons_succ]
  refine held_take (i := 20) 6 (v := ?vm20x20) rfl rfl (by kernel_rfl) (by kernel_rfl) (by kernel_rfl) (fun _ _ _ h => h) hS (by rfl) ?hm20x20 ?rm20x20
  case hm20x20 =>
    intro w9 s9
    clear s9
    go_simp
    try (with_reducible rfl)
  simp only [List.setIfInBounds_toArray, List.set_cons_zero, List.set_cons_succ]
  refine wpAnyH_done (by kernel_rfl) ?_ _
  have H14 := Lib.hid hS
  clear hS
  go_wp2_with fail
  go_ret
  exact ⟨rfl, chain BC.out H14.out⟩
/-- A slice of pairs that came in. -/
def IsPairs (w : World) (a : Option Addr) (len : Nat) : Prop := ∃ L : List (Int × ByteArray), L.length = len ∧ Prs w a L ∧ (∀ p ∈ L, 0 ≤ p.1 ∧ p.1 ≤ 18446744073709551615) ∧ ∀ p ∈ L, p.2.size ≤ 9223372036854775807
theorem nodeSizes_law (a : Option Addr) (len cap : Nat) (key : Int) (v : ByteArray) (w : World) (hp : IsPairs w a len) (hkey : (Lit.int .u64 key).wf = true) (hv : v.size ≤ 140737488351232) :
    Calls Try.prog 9 #[.slice a len cap, .int .u64 key, .string v] w fun e w' => e = .returned (.bool true) ∧ Below w.heap.size w w' := by
  obtain ⟨L, rfl, hL, hk, hs⟩ := hp
  have hkey' : 0 ≤ key ∧ key ≤ 18446744073709551615 := by
    simp [Lit.wf] at hkey
    have h1 : IntKind.u64.min = 0 := by rfl
    have h2 : IntKind.u64.max = 18446744073709551615 := by rfl
    omega
  cases hf : (findN (growN L 20) key).2 with
  | false => exact sizes_f a cap L key v w hL hk hs hkey' hf
  | true => exact sizes_t a cap L key v w hL hk hs hkey' hf
end Go.Proofs.Ytkdcoipbdkmieaa
