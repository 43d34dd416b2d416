/-
  Package bailiwicklaw10: grow.
-/
import Derived.Test.YtkdcoipbdkmieaaNodeH
import Derived.Test.YtkdcoipbdkmieaaWays
namespace Go.Proofs.Ytkdcoipbdkmieaa
open Go.RowKit
set_option linter.unusedVariables false
set_option linter.unusedSimpArgs false
/-- A slice of pairs of a key and a value. -/
def Prs (w : World) (a : Option Addr) (L : List (Int × ByteArray)) : Prop :=
  L = [] ∨ ∃ b off, a = some ⟨b, off, none⟩ ∧ b < w.heap.size ∧ ∀ i (h : i < L.length), w.cell? ⟨b, off + i * 2, none⟩ = some (.int .u64 L[i].1) ∧ w.cell? ⟨b, off + i * 2 + 1, none⟩ = some (.string L[i].2)
theorem Prs.below {w w' : World} {a : Option Addr} {L : List (Int × ByteArray)} (h : Prs w a L) (hb : Below w.heap.size w w') : Prs w' a L := by
  rcases h with h | ⟨b, off, h1, h2, h3⟩
  · exact .inl h
  · exact .inr ⟨b, off, h1, Nat.lt_of_lt_of_le h2 hb.size, fun i hi => ⟨(hb.cell (p := ⟨b, off + i * 2, none⟩) h2).trans (h3 i hi).1, (hb.cell (p := ⟨b, off + i * 2 + 1, none⟩) h2).trans (h3 i hi).2⟩⟩
theorem Prs.at {w : World} {a : Option Addr} {L : List (Int × ByteArray)} (h : Prs w a L) (i : Nat) (hi : i < L.length) : ∃ b off, a = some ⟨b, off, none⟩ ∧ b < w.heap.size ∧ w.cell? ⟨b, off + i * 2, none⟩ = some (.int .u64 L[i].1) ∧ w.cell? ⟨b, off + i * 2 + 1, none⟩ = some (.string L[i].2) := by
  rcases h with rfl | ⟨b, off, h1, h2, h3⟩
  · exact absurd hi (Nat.not_lt_zero _)
  · exact ⟨b, off, h1, h2, (h3 i hi).1, (h3 i hi).2⟩
/-- A text's first forty bytes. -/
def cut40 (v : ByteArray) : ByteArray := v.extract 0 (min v.size 40)
theorem cut40_le (v : ByteArray) : (cut40 v).size ≤ 40 := by unfold cut40; rw [ByteArray.size_extract]; omega
def leaf0 : Nod := ⟨true, [], [], []⟩
/-- The leaf of the first j pairs. -/
def growN (L : List (Int × ByteArray)) (j : Nat) : Nod := (L.take j).foldl (fun n p => putN n p.1 (cut40 p.2)) leaf0
theorem growN_succ (L : List (Int × ByteArray)) (j : Nat) (h : j < L.length) : growN L (j + 1) = putN (growN L j) L[j].1 (cut40 L[j].2) := by
  unfold growN
  rw [List.take_succ_eq_append_getElem h, List.foldl_append]
  rfl
theorem growN_leaf (L : List (Int × ByteArray)) (j : Nat) : (growN L j).leaf = true ∧ wholeB (growN L j) = true ∧ (growN L j).K.length ≤ j := by
  induction j with
  | zero => exact ⟨rfl, rfl, Nat.le_refl _⟩
  | succ j ih =>
    by_cases h : j < L.length
    · rw [growN_succ L j h]
      refine ⟨put_leaf _ _ _ ih.1, put_whole _ _ _ ih.1 ih.2.1, ?_⟩
      have := put_K (growN L j) L[j].1 (cut40 L[j].2) ih.1 ih.2.1
      rw [this]
      split <;> omega
    · have e : growN L (j + 1) = growN L j := by unfold growN; rw [List.take_of_length_le (by omega), List.take_of_length_le (by omega)]
      rw [e]
      exact ⟨ih.1, ih.2.1, by omega⟩
theorem leaf0_R (w : World) : NodR w leaf0 none none none 0 0 0 :=
  ⟨.inl rfl, .inl rfl, .inl rfl, Nat.le_refl _, Nat.zero_le _, Nat.le_refl _, Nat.zero_le _, Nat.le_refl _, Nat.zero_le _, ⟨Nat.zero_le _, Nat.zero_le _, Nat.zero_le _, (fun x hx => by cases hx), (fun x hx => by cases hx), (fun x hx => by cases hx)⟩⟩
/-- What stands in memory when j pairs have been put in. -/
def GrowI (w : World) (L : List (Int × ByteArray)) (m j : Nat) (wr : World) : Prop :=
  ∃ ak av ac ck cv cc, j ≤ m ∧ j ≤ 20 ∧ wr.heap[w.heap.size + 1]? = some (.cells (boxC (growN L j) ak av ac ck cv cc) 26) ∧ wr.heap[w.heap.size]? = some (.cells #[.bool false, .slice none 0 0, .slice none 0 0, .slice none 0 0] 26) ∧
    NodR wr (growN L j) ak av ac ck cv cc ∧ (∀ x, ak = some x → w.heap.size + 1 < x.block) ∧ (∀ x, av = some x → w.heap.size + 1 < x.block) ∧ (∀ x, ac = some x → w.heap.size + 1 < x.block) ∧ Below w.heap.size w wr
theorem NodR.set4 {w : World} {n : Nod} {ak av ac : Option Addr} {ck cv cc : Nat} (h : NodR w n ak av ac ck cv cc) (r : Nat) (v0 v1 v2 v3 : Value) (h1 : ∀ x, ak = some x → r < x.block) (h2 : ∀ x, av = some x → r < x.block) (h3 : ∀ x, ac = some x → r < x.block) :
    NodR ((((w.setCell ⟨r, 0, none⟩ v0).setCell ⟨r, 1, none⟩ v1).setCell ⟨r, 2, none⟩ v2).setCell ⟨r, 3, none⟩ v3) n ak av ac ck cv cc :=
  ⟨h.k.set4 _ _ _ _ _ h1, h.v.set4 _ _ _ _ _ h2, h.c.set4 _ _ _ _ _ h3, h.k2, h.k3, h.v2, h.v3, h.c2, h.c3, h.ok⟩
set_option maxHeartbeats 3200000 in
set_option maxRecDepth 20000 in
theorem grow_any (a : Option Addr) (cap : Nat) (L : List (Int × ByteArray)) (w : World) (hL : Prs w a L) (hk : ∀ p ∈ L, 0 ≤ p.1 ∧ p.1 ≤ 18446744073709551615) (hv : ∀ p ∈ L, p.2.size ≤ 9223372036854775807) :
    Calls Try.prog 29 #[.slice a L.length cap] w fun e w' => NodBack w.heap.size (growN L 20) e w' ∧ Below w.heap.size w w' := by
  have HL := Lib.hid hL
  have HK := Lib.hid hk
  have HV := Lib.hid hv
  have GS := Lib.hid (growN_succ L)
  have GL := Lib.hid (growN_leaf L)
  obtain ⟨m, hm⟩ : ∃ m, L.length = m := ⟨_, rfl⟩
  rw [hm]
  clear hL hk hv
  go_enter Try.func29, Try.ntmps29
  go_wp2_with fail
  have I0 : Hid (GrowI w L m 0 ((w.alloc (.cells #[.bool false, .slice none 0 0, .slice none 0 0, .slice none 0 0] 26)).alloc (.cells #[.bool true, .slice none 0 0, .slice none 0 0, .slice none 0 0] 26))) := Lib.hid
    ⟨none, none, none, 0, 0, 0, Nat.zero_le _, Nat.zero_le _, by rw [← show (w.alloc (.cells #[.bool false, .slice none 0 0, .slice none 0 0, .slice none 0 0] 26)).heap.size = w.heap.size + 1 from by simp]; exact heap_alloc_new _ _,
      (heap_alloc_old _ _ (by simp)).trans (heap_alloc_new w _), leaf0_R _, (fun x hx => by cases hx), (fun x hx => by cases hx), (fun x hx => by cases hx), ((Below.refl _ _).alloc (Nat.le_refl _) _).alloc (by simp) _⟩
  go_loopw [4] (fun i wr => ∃ j : Nat, i = .int .i64 (j : Int) ∧ GrowI w L m j wr) (fun i _ => 21 - (intOf i).toNat)
  case atStart => exact ⟨0, rfl, I0.out⟩
  case round =>
    obtain ⟨j, rfl, ak, av, ac, ck, cv, cc, hjm, hj20, hN, hZ, hR, g1, g2, g3, hB⟩ := hrel
    have HN := Lib.hid hN
    have HZ := Lib.hid hZ
    have HR := Lib.hid hR
    have HB := Lib.hid hB
    have G1 := Lib.hid g1
    have G2 := Lib.hid g2
    have G3 := Lib.hid g3
    have ltN : w.heap.size + 1 < wr.heap.size := (Array.getElem?_eq_some_iff.1 hN).1
    have gl := GL.out j
    have go := hR.ok
    clear hZ hR hB g1 g2 g3 I0
    by_cases hlt : j < m ∧ j < 20
    · obtain ⟨hlt, h20⟩ := hlt
      have hji : (j : Int) < (m : Int) := by omega
      have hj2 : (j : Int) < 20 := by omega
      have hjl : j < L.length := by omega
      have gs := GS.out j hjl
      obtain ⟨b, off, rfl, ltP, p0, p1⟩ := (HL.out.below HB.out).at j hjl
      have kb := HK.out _ (List.getElem_mem hjl)
      have vb := HV.out _ (List.getElem_mem hjl)
      generalize L[j] = pp at *
      obtain ⟨pk, pv⟩ := pp
      dsimp only at p0 p1 kb vb gs
      have PUT := Lib.hid (fun w5 hb => put_is (growN L j) ak av ac ck cv cc w5 (HR.out.below hb) pk (cut40 pv) gl.1 gl.2.1 (by have := gl.2.2; omega) kb (by have := cut40_le pv; omega))
      rw [← gs] at PUT
      have gl' := GL.out (j + 1)
      have hok' := nput_ok (growN L j) pk (cut40 pv) go (by have := gl.2.2; omega) (by have := (wholeB_leaf gl.1).1 gl.2.1; have := gl.2.2; omega) kb (by have := cut40_le pv; omega)
      clear hok' gs kb
      unfold boxC at HN hN
      generalize hn' : growN L (j + 1) = n' at *
      generalize hn : growN L j = n at *
      obtain ⟨lf, K, V, C⟩ := n
      obtain ⟨lf', K', V', C'⟩ := n'
      dsimp only at HN hN PUT
      unfold nodV at PUT
      dsimp only at PUT
      generalize hlk : K.length = lk at *
      generalize hlv : V.length = lv at *
      generalize hlc : C.length = lc at *
      have n0 : wr.cell? ⟨w.heap.size + 1, 0, none⟩ = some (.bool lf) := by rw [Go.Joins.cell_of_block hN]; rfl
      have n1 : wr.cell? ⟨w.heap.size + 1, 1, none⟩ = some (.slice ak lk ck) := by rw [Go.Joins.cell_of_block hN]; rfl
      have n2 : wr.cell? ⟨w.heap.size + 1, 2, none⟩ = some (.slice av lv cv) := by rw [Go.Joins.cell_of_block hN]; rfl
      have n3 : wr.cell? ⟨w.heap.size + 1, 3, none⟩ = some (.slice ac lc cc) := by rw [Go.Joins.cell_of_block hN]; rfl
      clear hN gl gl' go
      have hx : (pv.size ≤ 40 ∧ cut40 pv = pv) ∨ (40 < pv.size ∧ cut40 pv = pv.extract 0 40) := by
        unfold cut40
        rcases Nat.le_total pv.size 40 with hx | hx
        · exact .inl ⟨hx, by rw [Nat.min_eq_left hx]; simp⟩
        · by_cases h4 : pv.size = 40
          · exact .inl ⟨by omega, by rw [h4, Nat.min_self, ← h4]; simp⟩
          · exact .inr ⟨by omega, by rw [Nat.min_eq_right hx]⟩
      rcases hx with ⟨hx1, hx⟩ | ⟨hx1, hx⟩
      · rw [hx] at PUT
        have hxi : ((40 : Int) < (pv.size : Int)) = False := by simp; omega
        clear hx hx1
        go_wp2_with fail
        refine region_ways (fun w' => Below wr.heap.size wr w') 20 (by kernel_rfl) ?_
        have hS := (Below.refl wr.heap.size wr).drew
        refine ways_taked (i := 0) 16 (v := ?v0) rfl rfl (by kernel_rfl) (by kernel_rfl) (by kernel_rfl) (by kernel_rfl) (fun _ _ _ h => h) hS (by rfl) ?h0 ?r0
        case h0 =>
          intro w9 s9
          have cN0 : w9.cell? ⟨w.heap.size + 1, 0, none⟩ = some (.bool lf) := (s9.cell (p := ⟨w.heap.size + 1, 0, none⟩) ltN).trans n0
          have cN1 : w9.cell? ⟨w.heap.size + 1, 1, none⟩ = some (.slice ak lk ck) := (s9.cell (p := ⟨w.heap.size + 1, 1, none⟩) ltN).trans n1
          have cN2 : w9.cell? ⟨w.heap.size + 1, 2, none⟩ = some (.slice av lv cv) := (s9.cell (p := ⟨w.heap.size + 1, 2, none⟩) ltN).trans n2
          have cN3 : w9.cell? ⟨w.heap.size + 1, 3, none⟩ = some (.slice ac lc cc) := (s9.cell (p := ⟨w.heap.size + 1, 3, none⟩) ltN).trans n3
          go_simp
          try (with_reducible rfl)
        simp only [List.setIfInBounds_toArray, List.set_cons_zero, List.set_cons_succ]
        refine ways_skipd (i := 1) 17 (v := ?v1) rfl rfl (by kernel_rfl) (by kernel_rfl) (by kernel_rfl) (by kernel_rfl) (fun _ _ _ h => h) hS (by rfl) ?h1 ?r1
        case h1 =>
          intro w9
          go_simp
          try (with_reducible rfl)
        simp only [List.setIfInBounds_toArray, List.set_cons_zero, List.set_cons_succ]
        refine ways_skipd (i := 2) 18 (v := ?v2) rfl rfl (by kernel_rfl) (by kernel_rfl) (by kernel_rfl) (by kernel_rfl) (fun _ _ _ h => h) hS (by rfl) ?h2 ?r2
        case h2 =>
          intro w9
          go_simp
          try (with_reducible rfl)
        simp only [List.setIfInBounds_toArray, List.set_cons_zero, List.set_cons_succ]
        refine ways_skipd (i := 3) 19 (v := ?v3) rfl rfl (by kernel_rfl) (by kernel_rfl) (by kernel_rfl) (by kernel_rfl) (fun _ _ _ h => h) hS (by rfl) ?h3 ?r3
        case h3 =>
          intro w9
          go_simp
          try (with_reducible rfl)
        simp only [List.setIfInBounds_toArray, List.set_cons_zero, List.set_cons_succ]
        refine ways_skipd (i := 4) 20 (v := ?v4) rfl rfl (by kernel_rfl) (by kernel_rfl) (by kernel_rfl) (by kernel_rfl) (fun _ _ _ h => h) hS (by rfl) ?h4 ?r4
        case h4 =>
          intro w9
          go_simp
          try (with_reducible rfl)
        simp only [List.setIfInBounds_toArray, List.set_cons_zero, List.set_cons_succ]
        refine ways_taked (i := 5) 21 (v := ?v5) rfl rfl (by kernel_rfl) (by kernel_rfl) (by kernel_rfl) (by kernel_rfl) (fun _ _ _ h => h) hS (by rfl) ?h5 ?r5
        case h5 =>
          intro w9 s9
          have cP : w9.cell? ⟨b, off + j * 2, none⟩ = some (.int .u64 pk) := (s9.cell (p := ⟨b, off + j * 2, none⟩) ltP).trans p0
          go_simp
          try (with_reducible rfl)
        simp only [List.setIfInBounds_toArray, List.set_cons_zero, List.set_cons_succ]
        refine ways_skipd (i := 6) 22 (v := ?v6) rfl rfl (by kernel_rfl) (by kernel_rfl) (by kernel_rfl) (by kernel_rfl) (fun _ _ _ h => h) hS (by rfl) ?h6 ?r6
        case h6 =>
          intro w9
          go_simp
          try (with_reducible rfl)
        simp only [List.setIfInBounds_toArray, List.set_cons_zero, List.set_cons_succ]
        refine ways_skipd (i := 7) 23 (v := ?v7) rfl rfl (by kernel_rfl) (by kernel_rfl) (by kernel_rfl) (by kernel_rfl) (fun _ _ _ h => h) hS (by rfl) ?h7 ?r7
        case h7 =>
          intro w9
          go_simp
          try (with_reducible rfl)
        simp only [List.setIfInBounds_toArray, List.set_cons_zero, List.set_cons_succ]
        refine ways_skipd (i := 8) 24 (v := ?v8) rfl rfl (by kernel_rfl) (by kernel_rfl) (by kernel_rfl) (by kernel_rfl) (fun _ _ _ h => h) hS (by rfl) ?h8 ?r8
        case h8 =>
          intro w9
          go_simp
          try (with_reducible rfl)
        simp only [List.setIfInBounds_toArray, List.set_cons_zero, List.set_cons_succ]
        refine ways_skipd (i := 9) 25 (v := ?v9) rfl rfl (by kernel_rfl) (by kernel_rfl) (by kernel_rfl) (by kernel_rfl) (fun _ _ _ h => h) hS (by rfl) ?h9 ?r9
        case h9 =>
          intro w9
          go_simp
          try (with_reducible rfl)
        simp only [List.setIfInBounds_toArray, List.set_cons_zero, List.set_cons_succ]
        refine ways_taked (i := 10) 26 (v := ?v10) rfl rfl (by kernel_rfl) (by kernel_rfl) (by kernel_rfl) (by kernel_rfl) (fun _ _ _ h => h) hS (by rfl) ?h10 ?r10
        case h10 =>
          intro w9 s9
          have cP : w9.cell? ⟨b, off + j * 2 + 1, none⟩ = some (.string pv) := (s9.cell (p := ⟨b, off + j * 2 + 1, none⟩) ltP).trans p1
          go_simp
          try (with_reducible rfl)
        simp only [List.setIfInBounds_toArray, List.set_cons_zero, List.set_cons_succ]
        refine ways_skipd (i := 11) 27 (v := ?v11) rfl rfl (by kernel_rfl) (by kernel_rfl) (by kernel_rfl) (by kernel_rfl) (fun _ _ _ h => h) hS (by rfl) ?h11 ?r11
        case h11 =>
          intro w9
          go_simp
          try (with_reducible rfl)
        simp only [List.setIfInBounds_toArray, List.set_cons_zero, List.set_cons_succ]
        refine ways_skipd (i := 12) 28 (v := ?v12) rfl rfl (by kernel_rfl) (by kernel_rfl) (by kernel_rfl) (by kernel_rfl) (fun _ _ _ h => h) hS (by rfl) ?h12 ?r12
        case h12 =>
          intro w9
          go_simp
          try (with_reducible rfl)
        simp only [List.setIfInBounds_toArray, List.set_cons_zero, List.set_cons_succ]
        refine ways_skipd (i := 13) 29 (v := ?v13) rfl rfl (by kernel_rfl) (by kernel_rfl) (by kernel_rfl) (by kernel_rfl) (fun _ _ _ h => h) hS (by rfl) ?h13 ?r13
        case h13 =>
          intro w9
          go_simp
          try (with_reducible rfl)
        simp only [List.setIfInBounds_toArray, List.set_cons_zero, List.set_cons_succ]
        refine ways_skipd (i := 14) 30 (v := ?v14) rfl rfl (by kernel_rfl) (by kernel_rfl) (by kernel_rfl) (by kernel_rfl) (fun _ _ _ h => h) hS (by rfl) ?h14 ?r14
        case h14 =>
          intro w9
          go_simp
          try (with_reducible rfl)
        simp only [List.setIfInBounds_toArray, List.set_cons_zero, List.set_cons_succ]
        refine ways_taked (i := 15) 31 (v := ?v15) rfl rfl (by kernel_rfl) (by kernel_rfl) (by kernel_rfl) (by kernel_rfl) (fun _ _ _ h => h) hS (by rfl) ?h15 ?r15
        case h15 =>
          intro w9 s9
          have cP : w9.cell? ⟨b, off + j * 2 + 1, none⟩ = some (.string pv) := (s9.cell (p := ⟨b, off + j * 2 + 1, none⟩) ltP).trans p1
          go_simp
          try (with_reducible rfl)
        simp only [List.setIfInBounds_toArray, List.set_cons_zero, List.set_cons_succ]
        refine ways_skipd (i := 16) 32 (v := ?v16) rfl rfl (by kernel_rfl) (by kernel_rfl) (by kernel_rfl) (by kernel_rfl) (fun _ _ _ h => h) hS (by rfl) ?h16 ?r16
        case h16 =>
          intro w9
          go_simp
          try (with_reducible rfl)
        simp only [List.setIfInBounds_toArray, List.set_cons_zero, List.set_cons_succ]
        refine ways_skipd (i := 17) 33 (v := ?v17) rfl rfl (by kernel_rfl) (by kernel_rfl) (by kernel_rfl) (by kernel_rfl) (fun _ _ _ h => h) hS (by rfl) ?h17 ?r17
        case h17 =>
          intro w9
          go_simp
          try (with_reducible rfl)
        simp only [List.setIfInBounds_toArray, List.set_cons_zero, List.set_cons_succ]
        refine ways_skipd (i := 18) 34 (v := ?v18) rfl rfl (by kernel_rfl) (by kernel_rfl) (by kernel_rfl) (by kernel_rfl) (fun _ _ _ h => h) hS (by rfl) ?h18 ?r18
        case h18 =>
          intro w9
          go_simp
          try (with_reducible rfl)
        simp only [List.setIfInBounds_toArray, List.set_cons_zero, List.set_cons_succ]
        refine ways_step (i := 19) rfl (by kernel_rfl) (fun K hK => ?_)
        have HK := Lib.hid hK
        clear hK
        go_simp
        go_wp2_with fail
        ((with_reducible refine (PUT.out _ hS).mono ?_))
        rintro e w5 ⟨⟨ak', av', ac', ck', cv', cc', rfl, hR5, q1, q2, q3⟩, b5⟩
        have hS5 := chain hS b5
        clear hS
        have hS := hS5
        clear hS5
        have HR5 := Lib.hid hR5
        have XB := kept HN.out hS
        have RB := kept HZ.out hS
        have HB5 := Lib.hid (chain HB.out hS)
        have Q1 := Lib.hid q1
        have Q2 := Lib.hid q2
        have Q3 := Lib.hid q3
        have y0 : w5.cell? ⟨w.heap.size + 1, 0, none⟩ = some (.bool lf) := by rw [Go.Joins.cell_of_block XB]; rfl
        have y1 : w5.cell? ⟨w.heap.size + 1, 1, none⟩ = some (.slice ak lk ck) := by rw [Go.Joins.cell_of_block XB]; rfl
        have y2 : w5.cell? ⟨w.heap.size + 1, 2, none⟩ = some (.slice av lv cv) := by rw [Go.Joins.cell_of_block XB]; rfl
        have y3 : w5.cell? ⟨w.heap.size + 1, 3, none⟩ = some (.slice ac lc cc) := by rw [Go.Joins.cell_of_block XB]; rfl
        have f0 := Go.Joins.unfrozen_of_block XB 0
        have f1 := Go.Joins.unfrozen_of_block XB 1
        have f2 := Go.Joins.unfrozen_of_block XB 2
        have f3 := Go.Joins.unfrozen_of_block XB 3
        have XR : ((((w5.setCell ⟨w.heap.size + 1, 0, none⟩ (.bool lf')).setCell ⟨w.heap.size + 1, 1, none⟩ (.slice ak' K'.length ck')).setCell ⟨w.heap.size + 1, 2, none⟩ (.slice av' V'.length cv')).setCell ⟨w.heap.size + 1, 3, none⟩ (.slice ac' C'.length cc')).heap[w.heap.size + 1]? = some (.cells #[.bool lf', .slice ak' K'.length ck', .slice av' V'.length cv', .slice ac' C'.length cc'] 26) := by
          rw [heap_setCell_same _ _ 3 _ _ _ (heap_setCell_same _ _ 2 _ _ _ (heap_setCell_same _ _ 1 _ _ _ (heap_setCell_same _ _ 0 _ _ _ XB)))]
          rfl
        have RR : ((((w5.setCell ⟨w.heap.size + 1, 0, none⟩ (.bool lf')).setCell ⟨w.heap.size + 1, 1, none⟩ (.slice ak' K'.length ck')).setCell ⟨w.heap.size + 1, 2, none⟩ (.slice av' V'.length cv')).setCell ⟨w.heap.size + 1, 3, none⟩ (.slice ac' C'.length cc')).heap[w.heap.size]? = some (.cells #[.bool false, .slice none 0 0, .slice none 0 0, .slice none 0 0] 26) := by
          have hne : ∀ i, w.heap.size ≠ (⟨w.heap.size + 1, i, none⟩ : Addr).block := fun i => Nat.ne_of_lt (Nat.lt_succ_self _)
          rw [Below.heap_setCell _ _ _ _ (hne 3), Below.heap_setCell _ _ _ _ (hne 2), Below.heap_setCell _ _ _ _ (hne 1), Below.heap_setCell _ _ _ _ (hne 0)]
          exact RB
        have FIN : Hid (GrowI w L m (j + 1) ((((w5.setCell ⟨w.heap.size + 1, 0, none⟩ (.bool lf')).setCell ⟨w.heap.size + 1, 1, none⟩ (.slice ak' K'.length ck')).setCell ⟨w.heap.size + 1, 2, none⟩ (.slice av' V'.length cv')).setCell ⟨w.heap.size + 1, 3, none⟩ (.slice ac' C'.length cc'))) := Lib.hid ⟨ak', av', ac', ck', cv', cc', by omega, by omega, by rw [hn']; exact XR, RR, by rw [hn']; exact hR5.set4 _ _ _ _ _ (fun x hx => Nat.lt_of_lt_of_le ltN (q1 x hx)) (fun x hx => Nat.lt_of_lt_of_le ltN (q2 x hx)) (fun x hx => Nat.lt_of_lt_of_le ltN (q3 x hx)),
          fun x hx => Nat.lt_of_lt_of_le ltN (q1 x hx), fun x hx => Nat.lt_of_lt_of_le ltN (q2 x hx), fun x hx => Nat.lt_of_lt_of_le ltN (q3 x hx), ((((HB5.out).setCell (by simp) _).setCell (by simp) _).setCell (by simp) _).setCell (by simp) _⟩
        clear XB RB hR5 q1 q2 q3 b5 PUT XR RR
        simp only [nodV]
        refine HK.out _ _ ?_ (fun _ => hS)
        clear HK K
        try simp only [Act.put, List.setIfInBounds_toArray, List.set_cons_zero, List.set_cons_succ]
        refine ways_step (i := 20) rfl (by kernel_rfl) (fun K hK => ?_)
        have HK := Lib.hid hK
        clear hK
        go_simp
        refine HK.out _ _ ?_ (fun h => absurd rfl h)
        clear HK K
        refine ways_done (by kernel_rfl) ?_
        go_wp2_with fail
        go_roundw
        case rel => exact ⟨j + 1, by go_num, FIN.out⟩
        case measure => simp [intOf]; omega
      · rw [hx] at PUT
        have hxi : (40 : Int) < (pv.size : Int) := by omega
        have hxj : (40 : Int) ≤ (pv.size : Int) := by omega
        clear hx hx1
        go_wp2_with fail
        refine region_ways (fun w' => Below wr.heap.size wr w') 20 (by kernel_rfl) ?_
        have hS := (Below.refl wr.heap.size wr).drew
        refine ways_taked (i := 0) 16 (v := ?vb0) rfl rfl (by kernel_rfl) (by kernel_rfl) (by kernel_rfl) (by kernel_rfl) (fun _ _ _ h => h) hS (by rfl) ?hb0 ?rb0
        case hb0 =>
          intro w9 s9
          have cN0 : w9.cell? ⟨w.heap.size + 1, 0, none⟩ = some (.bool lf) := (s9.cell (p := ⟨w.heap.size + 1, 0, none⟩) ltN).trans n0
          have cN1 : w9.cell? ⟨w.heap.size + 1, 1, none⟩ = some (.slice ak lk ck) := (s9.cell (p := ⟨w.heap.size + 1, 1, none⟩) ltN).trans n1
          have cN2 : w9.cell? ⟨w.heap.size + 1, 2, none⟩ = some (.slice av lv cv) := (s9.cell (p := ⟨w.heap.size + 1, 2, none⟩) ltN).trans n2
          have cN3 : w9.cell? ⟨w.heap.size + 1, 3, none⟩ = some (.slice ac lc cc) := (s9.cell (p := ⟨w.heap.size + 1, 3, none⟩) ltN).trans n3
          go_simp
          try (with_reducible rfl)
        simp only [List.setIfInBounds_toArray, List.set_cons_zero, List.set_cons_succ]
        refine ways_skipd (i := 1) 17 (v := ?vb1) rfl rfl (by kernel_rfl) (by kernel_rfl) (by kernel_rfl) (by kernel_rfl) (fun _ _ _ h => h) hS (by rfl) ?hb1 ?rb1
        case hb1 =>
          intro w9
          go_simp
          try (with_reducible rfl)
        simp only [List.setIfInBounds_toArray, List.set_cons_zero, List.set_cons_succ]
        refine ways_skipd (i := 2) 18 (v := ?vb2) rfl rfl (by kernel_rfl) (by kernel_rfl) (by kernel_rfl) (by kernel_rfl) (fun _ _ _ h => h) hS (by rfl) ?hb2 ?rb2
        case hb2 =>
          intro w9
          go_simp
          try (with_reducible rfl)
        simp only [List.setIfInBounds_toArray, List.set_cons_zero, List.set_cons_succ]
        refine ways_skipd (i := 3) 19 (v := ?vb3) rfl rfl (by kernel_rfl) (by kernel_rfl) (by kernel_rfl) (by kernel_rfl) (fun _ _ _ h => h) hS (by rfl) ?hb3 ?rb3
        case hb3 =>
          intro w9
          go_simp
          try (with_reducible rfl)
        simp only [List.setIfInBounds_toArray, List.set_cons_zero, List.set_cons_succ]
        refine ways_skipd (i := 4) 20 (v := ?vb4) rfl rfl (by kernel_rfl) (by kernel_rfl) (by kernel_rfl) (by kernel_rfl) (fun _ _ _ h => h) hS (by rfl) ?hb4 ?rb4
        case hb4 =>
          intro w9
          go_simp
          try (with_reducible rfl)
        simp only [List.setIfInBounds_toArray, List.set_cons_zero, List.set_cons_succ]
        refine ways_taked (i := 5) 21 (v := ?vb5) rfl rfl (by kernel_rfl) (by kernel_rfl) (by kernel_rfl) (by kernel_rfl) (fun _ _ _ h => h) hS (by rfl) ?hb5 ?rb5
        case hb5 =>
          intro w9 s9
          have cP : w9.cell? ⟨b, off + j * 2, none⟩ = some (.int .u64 pk) := (s9.cell (p := ⟨b, off + j * 2, none⟩) ltP).trans p0
          go_simp
          try (with_reducible rfl)
        simp only [List.setIfInBounds_toArray, List.set_cons_zero, List.set_cons_succ]
        refine ways_skipd (i := 6) 22 (v := ?vb6) rfl rfl (by kernel_rfl) (by kernel_rfl) (by kernel_rfl) (by kernel_rfl) (fun _ _ _ h => h) hS (by rfl) ?hb6 ?rb6
        case hb6 =>
          intro w9
          go_simp
          try (with_reducible rfl)
        simp only [List.setIfInBounds_toArray, List.set_cons_zero, List.set_cons_succ]
        refine ways_skipd (i := 7) 23 (v := ?vb7) rfl rfl (by kernel_rfl) (by kernel_rfl) (by kernel_rfl) (by kernel_rfl) (fun _ _ _ h => h) hS (by rfl) ?hb7 ?rb7
        case hb7 =>
          intro w9
          go_simp
          try (with_reducible rfl)
        simp only [List.setIfInBounds_toArray, List.set_cons_zero, List.set_cons_succ]
        refine ways_skipd (i := 8) 24 (v := ?vb8) rfl rfl (by kernel_rfl) (by kernel_rfl) (by kernel_rfl) (by kernel_rfl) (fun _ _ _ h => h) hS (by rfl) ?hb8 ?rb8
        case hb8 =>
          intro w9
          go_simp
          try (with_reducible rfl)
        simp only [List.setIfInBounds_toArray, List.set_cons_zero, List.set_cons_succ]
        refine ways_skipd (i := 9) 25 (v := ?vb9) rfl rfl (by kernel_rfl) (by kernel_rfl) (by kernel_rfl) (by kernel_rfl) (fun _ _ _ h => h) hS (by rfl) ?hb9 ?rb9
        case hb9 =>
          intro w9
          go_simp
          try (with_reducible rfl)
        simp only [List.setIfInBounds_toArray, List.set_cons_zero, List.set_cons_succ]
        refine ways_taked (i := 10) 26 (v := ?vb10) rfl rfl (by kernel_rfl) (by kernel_rfl) (by kernel_rfl) (by kernel_rfl) (fun _ _ _ h => h) hS (by rfl) ?hb10 ?rb10
        case hb10 =>
          intro w9 s9
          have cP : w9.cell? ⟨b, off + j * 2 + 1, none⟩ = some (.string pv) := (s9.cell (p := ⟨b, off + j * 2 + 1, none⟩) ltP).trans p1
          go_simp
          try (with_reducible rfl)
        simp only [List.setIfInBounds_toArray, List.set_cons_zero, List.set_cons_succ]
        refine ways_skipd (i := 11) 27 (v := ?vb11) rfl rfl (by kernel_rfl) (by kernel_rfl) (by kernel_rfl) (by kernel_rfl) (fun _ _ _ h => h) hS (by rfl) ?hb11 ?rb11
        case hb11 =>
          intro w9
          go_simp
          try (with_reducible rfl)
        simp only [List.setIfInBounds_toArray, List.set_cons_zero, List.set_cons_succ]
        refine ways_skipd (i := 12) 28 (v := ?vb12) rfl rfl (by kernel_rfl) (by kernel_rfl) (by kernel_rfl) (by kernel_rfl) (fun _ _ _ h => h) hS (by rfl) ?hb12 ?rb12
        case hb12 =>
          intro w9
          go_simp
          try (with_reducible rfl)
        simp only [List.setIfInBounds_toArray, List.set_cons_zero, List.set_cons_succ]
        refine ways_skipd (i := 13) 29 (v := ?vb13) rfl rfl (by kernel_rfl) (by kernel_rfl) (by kernel_rfl) (by kernel_rfl) (fun _ _ _ h => h) hS (by rfl) ?hb13 ?rb13
        case hb13 =>
          intro w9
          go_simp
          try (with_reducible rfl)
        simp only [List.setIfInBounds_toArray, List.set_cons_zero, List.set_cons_succ]
        refine ways_skipd (i := 14) 30 (v := ?vb14) rfl rfl (by kernel_rfl) (by kernel_rfl) (by kernel_rfl) (by kernel_rfl) (fun _ _ _ h => h) hS (by rfl) ?hb14 ?rb14
        case hb14 =>
          intro w9
          go_simp
          try (with_reducible rfl)
        simp only [List.setIfInBounds_toArray, List.set_cons_zero, List.set_cons_succ]
        refine ways_taked (i := 15) 31 (v := ?vb15) rfl rfl (by kernel_rfl) (by kernel_rfl) (by kernel_rfl) (by kernel_rfl) (fun _ _ _ h => h) hS (by rfl) ?hb15 ?rb15
        case hb15 =>
          intro w9 s9
          have cP : w9.cell? ⟨b, off + j * 2 + 1, none⟩ = some (.string pv) := (s9.cell (p := ⟨b, off + j * 2 + 1, none⟩) ltP).trans p1
          go_simp
          try (with_reducible rfl)
        simp only [List.setIfInBounds_toArray, List.set_cons_zero, List.set_cons_succ]
        refine ways_skipd (i := 16) 32 (v := ?vb16) rfl rfl (by kernel_rfl) (by kernel_rfl) (by kernel_rfl) (by kernel_rfl) (fun _ _ _ h => h) hS (by rfl) ?hb16 ?rb16
        case hb16 =>
          intro w9
          go_simp
          try (with_reducible rfl)
        simp only [List.setIfInBounds_toArray, List.set_cons_zero, List.set_cons_succ]
        refine ways_skipd (i := 17) 33 (v := ?vb17) rfl rfl (by kernel_rfl) (by kernel_rfl) (by kernel_rfl) (by kernel_rfl) (fun _ _ _ h => h) hS (by rfl) ?hb17 ?rb17
        case hb17 =>
          intro w9
          go_simp
          try (with_reducible rfl)
        simp only [List.setIfInBounds_toArray, List.set_cons_zero, List.set_cons_succ]
        refine ways_skipd (i := 18) 34 (v := ?vb18) rfl rfl (by kernel_rfl) (by kernel_rfl) (by kernel_rfl) (by kernel_rfl) (fun _ _ _ h => h) hS (by rfl) ?hb18 ?rb18
        case hb18 =>
          intro w9
          go_simp
          try (with_reducible rfl)
        simp only [List.setIfInBounds_toArray, List.set_cons_zero, List.set_cons_succ]
        refine ways_step (i := 19) rfl (by kernel_rfl) (fun K hK => ?_)
        have HK := Lib.hid hK
        clear hK
        go_simp
        go_wp2_with fail
        ((with_reducible refine (PUT.out _ hS).mono ?_))
        rintro e w5 ⟨⟨ak', av', ac', ck', cv', cc', rfl, hR5, q1, q2, q3⟩, b5⟩
        have hS5 := chain hS b5
        clear hS
        have hS := hS5
        clear hS5
        have HR5 := Lib.hid hR5
        have XB := kept HN.out hS
        have RB := kept HZ.out hS
        have HB5 := Lib.hid (chain HB.out hS)
        have Q1 := Lib.hid q1
        have Q2 := Lib.hid q2
        have Q3 := Lib.hid q3
        have y0 : w5.cell? ⟨w.heap.size + 1, 0, none⟩ = some (.bool lf) := by rw [Go.Joins.cell_of_block XB]; rfl
        have y1 : w5.cell? ⟨w.heap.size + 1, 1, none⟩ = some (.slice ak lk ck) := by rw [Go.Joins.cell_of_block XB]; rfl
        have y2 : w5.cell? ⟨w.heap.size + 1, 2, none⟩ = some (.slice av lv cv) := by rw [Go.Joins.cell_of_block XB]; rfl
        have y3 : w5.cell? ⟨w.heap.size + 1, 3, none⟩ = some (.slice ac lc cc) := by rw [Go.Joins.cell_of_block XB]; rfl
        have f0 := Go.Joins.unfrozen_of_block XB 0
        have f1 := Go.Joins.unfrozen_of_block XB 1
        have f2 := Go.Joins.unfrozen_of_block XB 2
        have f3 := Go.Joins.unfrozen_of_block XB 3
        have XR : ((((w5.setCell ⟨w.heap.size + 1, 0, none⟩ (.bool lf')).setCell ⟨w.heap.size + 1, 1, none⟩ (.slice ak' K'.length ck')).setCell ⟨w.heap.size + 1, 2, none⟩ (.slice av' V'.length cv')).setCell ⟨w.heap.size + 1, 3, none⟩ (.slice ac' C'.length cc')).heap[w.heap.size + 1]? = some (.cells #[.bool lf', .slice ak' K'.length ck', .slice av' V'.length cv', .slice ac' C'.length cc'] 26) := by
          rw [heap_setCell_same _ _ 3 _ _ _ (heap_setCell_same _ _ 2 _ _ _ (heap_setCell_same _ _ 1 _ _ _ (heap_setCell_same _ _ 0 _ _ _ XB)))]
          rfl
        have RR : ((((w5.setCell ⟨w.heap.size + 1, 0, none⟩ (.bool lf')).setCell ⟨w.heap.size + 1, 1, none⟩ (.slice ak' K'.length ck')).setCell ⟨w.heap.size + 1, 2, none⟩ (.slice av' V'.length cv')).setCell ⟨w.heap.size + 1, 3, none⟩ (.slice ac' C'.length cc')).heap[w.heap.size]? = some (.cells #[.bool false, .slice none 0 0, .slice none 0 0, .slice none 0 0] 26) := by
          have hne : ∀ i, w.heap.size ≠ (⟨w.heap.size + 1, i, none⟩ : Addr).block := fun i => Nat.ne_of_lt (Nat.lt_succ_self _)
          rw [Below.heap_setCell _ _ _ _ (hne 3), Below.heap_setCell _ _ _ _ (hne 2), Below.heap_setCell _ _ _ _ (hne 1), Below.heap_setCell _ _ _ _ (hne 0)]
          exact RB
        have FIN : Hid (GrowI w L m (j + 1) ((((w5.setCell ⟨w.heap.size + 1, 0, none⟩ (.bool lf')).setCell ⟨w.heap.size + 1, 1, none⟩ (.slice ak' K'.length ck')).setCell ⟨w.heap.size + 1, 2, none⟩ (.slice av' V'.length cv')).setCell ⟨w.heap.size + 1, 3, none⟩ (.slice ac' C'.length cc'))) := Lib.hid ⟨ak', av', ac', ck', cv', cc', by omega, by omega, by rw [hn']; exact XR, RR, by rw [hn']; exact hR5.set4 _ _ _ _ _ (fun x hx => Nat.lt_of_lt_of_le ltN (q1 x hx)) (fun x hx => Nat.lt_of_lt_of_le ltN (q2 x hx)) (fun x hx => Nat.lt_of_lt_of_le ltN (q3 x hx)),
          fun x hx => Nat.lt_of_lt_of_le ltN (q1 x hx), fun x hx => Nat.lt_of_lt_of_le ltN (q2 x hx), fun x hx => Nat.lt_of_lt_of_le ltN (q3 x hx), ((((HB5.out).setCell (by simp) _).setCell (by simp) _).setCell (by simp) _).setCell (by simp) _⟩
        clear XB RB hR5 q1 q2 q3 b5 PUT XR RR
        simp only [nodV]
        refine HK.out _ _ ?_ (fun _ => hS)
        clear HK K
        try simp only [Act.put, List.setIfInBounds_toArray, List.set_cons_zero, List.set_cons_succ]
        refine ways_step (i := 20) rfl (by kernel_rfl) (fun K hK => ?_)
        have HK := Lib.hid hK
        clear hK
        go_simp
        refine HK.out _ _ ?_ (fun h => absurd rfl h)
        clear HK K
        refine ways_done (by kernel_rfl) ?_
        go_wp2_with fail
        go_roundw
        case rel => exact ⟨j + 1, by go_num, FIN.out⟩
        case measure => simp [intOf]; omega

    · have hend : growN L j = growN L 20 := by
        unfold growN
        by_cases h1 : j < m
        · have : j = 20 := by omega
          rw [this]
        · rw [List.take_of_length_le (by omega), List.take_of_length_le (by omega)]
      rw [hend] at HN HR hN gl go
      clear hend
      have RB := HZ.out
      have y0 : wr.cell? ⟨w.heap.size, 0, none⟩ = some (.bool false) := by rw [Go.Joins.cell_of_block RB]; rfl
      have y1 : wr.cell? ⟨w.heap.size, 1, none⟩ = some (.slice none 0 0) := by rw [Go.Joins.cell_of_block RB]; rfl
      have y2 : wr.cell? ⟨w.heap.size, 2, none⟩ = some (.slice none 0 0) := by rw [Go.Joins.cell_of_block RB]; rfl
      have y3 : wr.cell? ⟨w.heap.size, 3, none⟩ = some (.slice none 0 0) := by rw [Go.Joins.cell_of_block RB]; rfl
      have f0 := Go.Joins.unfrozen_of_block RB 0
      have f1 := Go.Joins.unfrozen_of_block RB 1
      have f2 := Go.Joins.unfrozen_of_block RB 2
      have f3 := Go.Joins.unfrozen_of_block RB 3
      unfold boxC at HN hN
      generalize hn20 : growN L 20 = n at *
      obtain ⟨lf, K, V, C⟩ := n
      dsimp only at HN hN
      have n0 : wr.cell? ⟨w.heap.size + 1, 0, none⟩ = some (.bool lf) := by rw [Go.Joins.cell_of_block hN]; rfl
      have n1 : wr.cell? ⟨w.heap.size + 1, 1, none⟩ = some (.slice ak K.length ck) := by rw [Go.Joins.cell_of_block hN]; rfl
      have n2 : wr.cell? ⟨w.heap.size + 1, 2, none⟩ = some (.slice av V.length cv) := by rw [Go.Joins.cell_of_block hN]; rfl
      have n3 : wr.cell? ⟨w.heap.size + 1, 3, none⟩ = some (.slice ac C.length cc) := by rw [Go.Joins.cell_of_block hN]; rfl
      have XR : ((((wr.setCell ⟨w.heap.size, 0, none⟩ (.bool lf)).setCell ⟨w.heap.size, 1, none⟩ (.slice ak K.length ck)).setCell ⟨w.heap.size, 2, none⟩ (.slice av V.length cv)).setCell ⟨w.heap.size, 3, none⟩ (.slice ac C.length cc)).heap[w.heap.size]? = some (.cells #[.bool lf, .slice ak K.length ck, .slice av V.length cv, .slice ac C.length cc] 26) := by
        rw [heap_setCell_same _ _ 3 _ _ _ (heap_setCell_same _ _ 2 _ _ _ (heap_setCell_same _ _ 1 _ _ _ (heap_setCell_same _ _ 0 _ _ _ RB)))]
        rfl
      have z0 : ((((wr.setCell ⟨w.heap.size, 0, none⟩ (.bool lf)).setCell ⟨w.heap.size, 1, none⟩ (.slice ak K.length ck)).setCell ⟨w.heap.size, 2, none⟩ (.slice av V.length cv)).setCell ⟨w.heap.size, 3, none⟩ (.slice ac C.length cc)).cell? ⟨w.heap.size, 0, none⟩ = some (.bool lf) := by rw [Go.Joins.cell_of_block XR]; rfl
      have z1 : ((((wr.setCell ⟨w.heap.size, 0, none⟩ (.bool lf)).setCell ⟨w.heap.size, 1, none⟩ (.slice ak K.length ck)).setCell ⟨w.heap.size, 2, none⟩ (.slice av V.length cv)).setCell ⟨w.heap.size, 3, none⟩ (.slice ac C.length cc)).cell? ⟨w.heap.size, 1, none⟩ = some (.slice ak K.length ck) := by rw [Go.Joins.cell_of_block XR]; rfl
      have z2 : ((((wr.setCell ⟨w.heap.size, 0, none⟩ (.bool lf)).setCell ⟨w.heap.size, 1, none⟩ (.slice ak K.length ck)).setCell ⟨w.heap.size, 2, none⟩ (.slice av V.length cv)).setCell ⟨w.heap.size, 3, none⟩ (.slice ac C.length cc)).cell? ⟨w.heap.size, 2, none⟩ = some (.slice av V.length cv) := by rw [Go.Joins.cell_of_block XR]; rfl
      have z3 : ((((wr.setCell ⟨w.heap.size, 0, none⟩ (.bool lf)).setCell ⟨w.heap.size, 1, none⟩ (.slice ak K.length ck)).setCell ⟨w.heap.size, 2, none⟩ (.slice av V.length cv)).setCell ⟨w.heap.size, 3, none⟩ (.slice ac C.length cc)).cell? ⟨w.heap.size, 3, none⟩ = some (.slice ac C.length cc) := by rw [Go.Joins.cell_of_block XR]; rfl
      have FIN : Hid (NodBack w.heap.size (growN L 20) (.returned (.agg #[.bool lf, .slice ak K.length ck, .slice av V.length cv, .slice ac C.length cc])) ((((wr.setCell ⟨w.heap.size, 0, none⟩ (.bool lf)).setCell ⟨w.heap.size, 1, none⟩ (.slice ak K.length ck)).setCell ⟨w.heap.size, 2, none⟩ (.slice av V.length cv)).setCell ⟨w.heap.size, 3, none⟩ (.slice ac C.length cc)) ∧ Below w.heap.size w ((((wr.setCell ⟨w.heap.size, 0, none⟩ (.bool lf)).setCell ⟨w.heap.size, 1, none⟩ (.slice ak K.length ck)).setCell ⟨w.heap.size, 2, none⟩ (.slice av V.length cv)).setCell ⟨w.heap.size, 3, none⟩ (.slice ac C.length cc))) := Lib.hid
        (by rw [hn20]; exact ⟨⟨ak, av, ac, ck, cv, cc, rfl, HR.out.set4 _ _ _ _ _ (fun x hx => Nat.lt_trans (Nat.lt_succ_self _) (G1.out x hx)) (fun x hx => Nat.lt_trans (Nat.lt_succ_self _) (G2.out x hx)) (fun x hx => Nat.lt_trans (Nat.lt_succ_self _) (G3.out x hx)),
          fun x hx => Nat.le_trans (Nat.le_succ _) (Nat.le_of_lt (G1.out x hx)), fun x hx => Nat.le_trans (Nat.le_succ _) (Nat.le_of_lt (G2.out x hx)), fun x hx => Nat.le_trans (Nat.le_succ _) (Nat.le_of_lt (G3.out x hx))⟩,
          ((((HB.out).setCell (Nat.le_refl _) _).setCell (Nat.le_refl _) _).setCell (Nat.le_refl _) _).setCell (Nat.le_refl _) _⟩)
      have Z0 := Lib.hid z0
      have Z1 := Lib.hid z1
      have Z2 := Lib.hid z2
      have Z3 := Lib.hid z3
      clear hN gl go XR RB z0 z1 z2 z3
      by_cases h1 : j < m
      · have hji : (j : Int) < (m : Int) := by omega
        have hj2 : ¬ (j : Int) < 20 := by omega
        go_wp2_with fail
        exact bodyPost_ret (v := .agg #[.bool lf, .slice ak K.length ck, .slice av V.length cv, .slice ac C.length cc]) (by simp [results, Try.results29, go_sem, Z0.out, Z1.out, Z2.out, Z3.out]) rfl (by first | exact FIN.out | (rw [← hn20]; exact FIN.out))
      · have hji : ¬ (j : Int) < (m : Int) := by omega
        go_wp2_with fail
        exact bodyPost_ret (v := .agg #[.bool lf, .slice ak K.length ck, .slice av V.length cv, .slice ac C.length cc]) (by simp [results, Try.results29, go_sem, Z0.out, Z1.out, Z2.out, Z3.out]) rfl (by first | exact FIN.out | (rw [← hn20]; exact FIN.out))
end Go.Proofs.Ytkdcoipbdkmieaa
