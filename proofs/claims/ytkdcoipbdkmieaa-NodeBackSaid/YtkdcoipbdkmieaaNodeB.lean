/-
  Package bailiwicklaw10: branch.
-/
import Derived.Test.YtkdcoipbdkmieaaNodeG
import Derived.Test.YtkdcoipbdkmieaaHeld
namespace Go.Proofs.Ytkdcoipbdkmieaa
open Go.RowKit
set_option linter.unusedVariables false
set_option linter.unusedSimpArgs false
theorem Rd.setN {w : World} {a : Option Addr} {L : List Value} (h : Rd w a L) (p : Addr) (v : Value) (hne : ∀ x, a = some x → x.block ≠ p.block) : Rd (w.setCell p v) a L := by
  rcases h with h | ⟨b, off, rfl, h2, h3⟩
  · exact .inl h
  · have hb : b ≠ p.block := hne _ rfl
    refine .inr ⟨b, off, rfl, by simpa [World.setCell] using h2, fun i u hu => ?_⟩
    rw [← h3 i u hu]
    exact World.cell?_of_block (Below.heap_setCell _ _ _ _ hb)
theorem Rd.set4N {w : World} {a : Option Addr} {L : List Value} (h : Rd w a L) (r : Nat) (v0 v1 v2 v3 : Value) (hne : ∀ x, a = some x → x.block ≠ r) : Rd ((((w.setCell ⟨r, 0, none⟩ v0).setCell ⟨r, 1, none⟩ v1).setCell ⟨r, 2, none⟩ v2).setCell ⟨r, 3, none⟩ v3) a L :=
  (((h.setN _ _ hne).setN _ _ hne).setN _ _ hne).setN _ _ hne
theorem NodR.set4N {w : World} {n : Nod} {ak av ac : Option Addr} {ck cv cc : Nat} (h : NodR w n ak av ac ck cv cc) (r : Nat) (v0 v1 v2 v3 : Value) (h1 : ∀ x, ak = some x → x.block ≠ r) (h2 : ∀ x, av = some x → x.block ≠ r) (h3 : ∀ x, ac = some x → x.block ≠ r) :
    NodR ((((w.setCell ⟨r, 0, none⟩ v0).setCell ⟨r, 1, none⟩ v1).setCell ⟨r, 2, none⟩ v2).setCell ⟨r, 3, none⟩ v3) n ak av ac ck cv cc :=
  ⟨h.k.set4N _ _ _ _ _ h1, h.v.set4N _ _ _ _ _ h2, h.c.set4N _ _ _ _ _ h3, h.k2, h.k3, h.v2, h.v3, h.c2, h.c3, h.ok⟩
def branch0 : Nod := ⟨false, [], [], [2]⟩
/-- The key is there already. -/
def hasN (n : Nod) (key : Int) : Bool := decide (0 < (findN n key).1) && decide (n.K.getD ((findN n key).1 - 1) 0 = key)
def branchN (L : List (Int × ByteArray)) : Nat → Nod
  | 0 => branch0
  | j + 1 => if hasN (branchN L j) (L.getD j (0, ByteArray.empty)).1 = true then branchN L j else hangN (branchN L j) ((findN (branchN L j) (L.getD j (0, ByteArray.empty)).1).1 : Int) (L.getD j (0, ByteArray.empty)).1 ((j : Int) + 3)
theorem branchN_ok (L : List (Int × ByteArray)) (j : Nat) : (branchN L j).leaf = false ∧ wholeB (branchN L j) = true ∧ (branchN L j).K.length ≤ j := by
  induction j with
  | zero => exact ⟨rfl, rfl, Nat.le_refl _⟩
  | succ j ih =>
    unfold branchN
    split
    · exact ⟨ih.1, ih.2.1, by omega⟩
    · have h1 := hang_whole (branchN L j) ((findN (branchN L j) (L.getD j (0, ByteArray.empty)).1).1 : Int) (L.getD j (0, ByteArray.empty)).1 ((j : Int) + 3) ih.1 ih.2.1
      have h2 := hang_K (branchN L j) (findN (branchN L j) (L.getD j (0, ByteArray.empty)).1).1 (L.getD j (0, ByteArray.empty)).1 ((j : Int) + 3) ih.1 ih.2.1 (findN_le _ _)
      exact ⟨h1.1, h1.2, by omega⟩
/-- What stands in memory when j pairs have been gone through. -/
def BranchI (w : World) (r : Nat) (L : List (Int × ByteArray)) (m j : Nat) (wr : World) : Prop :=
  ∃ ak av ac ck cv cc, j ≤ m ∧ j ≤ 20 ∧ wr.heap[r]? = some (.cells (boxC (branchN L j) ak av ac ck cv cc) 26) ∧ wr.heap[w.heap.size]? = some (.cells #[.bool false, .slice none 0 0, .slice none 0 0, .slice none 0 0] 26) ∧
    NodR wr (branchN L j) ak av ac ck cv cc ∧ (∀ x, ak = some x → x.block ≠ r ∧ w.heap.size < x.block) ∧ (∀ x, av = some x → x.block ≠ r ∧ w.heap.size < x.block) ∧ (∀ x, ac = some x → x.block ≠ r ∧ w.heap.size < x.block) ∧ Below w.heap.size w wr
theorem branch0_R {w : World} (a : Option Addr) (h : Rd w a [.int .i64 2]) : NodR w branch0 none none a 0 0 1 :=
  ⟨.inl rfl, .inl rfl, h, Nat.le_refl _, Nat.zero_le _, Nat.le_refl _, Nat.zero_le _, Nat.le_refl _, by decide, ⟨Nat.zero_le _, Nat.zero_le _, by decide, (fun x hx => by cases hx), (fun x hx => by cases hx), (fun x hx => by simp [branch0] at hx; subst hx; decide)⟩⟩
set_option maxHeartbeats 6400000 in
set_option maxRecDepth 20000 in
theorem branch_any (a : Option Addr) (cap : Nat) (L : List (Int × ByteArray)) (w : World) (hL : Prs w a L) (hk : ∀ p ∈ L, 0 ≤ p.1 ∧ p.1 ≤ 18446744073709551615) :
    Calls Try.prog 30 #[.slice a L.length cap] w fun e w' => NodBack w.heap.size (branchN L (min L.length 20)) e w' ∧ Below w.heap.size w w' := by
  have HL := Lib.hid hL
  have HK := Lib.hid hk
  have GL := Lib.hid (branchN_ok L)
  obtain ⟨m, hm⟩ : ∃ m, L.length = m := ⟨_, rfl⟩
  rw [hm]
  clear hL hk
  go_enter Try.func30, Try.ntmps30
  go_wp2_with fail
  obtain ⟨r, hr⟩ : ∃ r, w.heap.size + 1 + 1 = r := ⟨_, rfl⟩
  rw [hr]
  have hr2 : w.heap.size + 1 < r := by omega
  have I0 : Hid (BranchI w r L m 0 (((w.alloc (.cells #[.bool false, .slice none 0 0, .slice none 0 0, .slice none 0 0] 26)).alloc (.cells #[.int .i64 2] 3)).alloc (.cells #[.bool false, .slice none 0 0, .slice none 0 0, .slice (some ⟨w.heap.size + 1, 0, none⟩) 1 1] 26))) := Lib.hid
    ⟨none, none, some ⟨w.heap.size + 1, 0, none⟩, 0, 0, 1, Nat.zero_le _, Nat.zero_le _, by rw [← hr, ← show ((w.alloc (.cells #[.bool false, .slice none 0 0, .slice none 0 0, .slice none 0 0] 26)).alloc (.cells #[.int .i64 2] 3)).heap.size = w.heap.size + 1 + 1 from by simp]; exact heap_alloc_new _ _,
      (heap_alloc_old _ _ (by simp; omega)).trans ((heap_alloc_old _ _ (by simp)).trans (heap_alloc_new w _)), branch0_R _ (by
        have h1 := (Rd.made (w.alloc (.cells #[.bool false, .slice none 0 0, .slice none 0 0, .slice none 0 0] 26)) #[.int .i64 2] 3).below (below_made _ (.cells #[.bool false, .slice none 0 0, .slice none 0 0, .slice (some ⟨w.heap.size + 1, 0, none⟩) 1 1] 26))
        rw [show (w.alloc (.cells #[.bool false, .slice none 0 0, .slice none 0 0, .slice none 0 0] 26)).heap.size = w.heap.size + 1 from by simp] at h1
        exact h1), (fun x hx => by cases hx), (fun x hx => by cases hx), (fun x hx => by cases hx; exact ⟨by show w.heap.size + 1 ≠ r; omega, by show w.heap.size < w.heap.size + 1; omega⟩), (((Below.refl _ _).alloc (Nat.le_refl _) _).alloc (by simp) _).alloc (by simp; omega) _⟩
  clear hr
  go_loopw [4] (fun i wr => ∃ j : Nat, i = .int .i64 (j : Int) ∧ BranchI w r L m j wr) (fun i _ => 21 - (intOf i).toNat)
  case atStart => exact ⟨0, rfl, I0.out⟩
  case round =>
    obtain ⟨j, rfl, ak, av, ac, ck, cv, cc, hjm, hj20, hN, hZ, hR, g1, g2, g3, hB⟩ := hrel
    have HN := Lib.hid hN
    have HZ := Lib.hid hZ
    have HR := Lib.hid hR
    have HB := Lib.hid hB
    have G1 := Lib.hid g1
    have G2 := Lib.hid g2
    have G3 := Lib.hid g3
    have ltN : r < wr.heap.size := (Array.getElem?_eq_some_iff.1 hN).1
    have gl := GL.out j
    have go := hR.ok
    clear hZ hR hB g1 g2 g3 I0
    by_cases hlt : j < m ∧ j < 20
    · obtain ⟨hlt, h20⟩ := hlt
      have hji : (j : Int) < (m : Int) := by omega
      have hj2 : (j : Int) < 20 := by omega
      have hjl : j < L.length := by omega
      obtain ⟨b, off, rfl, ltP, p0, p1⟩ := (HL.out.below HB.out).at j hjl
      have kb0 := HK.out _ (List.getElem_mem hjl)
      have hpk : (L.getD j (0, ByteArray.empty)).1 = L[j].1 := by rw [List.getD_eq_getElem?_getD, List.getElem?_eq_getElem hjl]; rfl
      generalize hpp : L[j] = pp at *
      obtain ⟨pk, pv⟩ := pp
      dsimp only at p0 p1 kb0 hpk
      have hw9 : Hid (IntKind.i64.wrap ((j : Int) + 3) = (j : Int) + 3) := Lib.hid (IntWalk.i64_in _ (by omega))
      have hat := findN_le (branchN L j) pk
      have hsuc : branchN L (j + 1) = if hasN (branchN L j) pk = true then branchN L j else hangN (branchN L j) ((findN (branchN L j) pk).1 : Int) pk ((j : Int) + 3) := by
        show (if hasN (branchN L j) (L.getD j (0, ByteArray.empty)).1 = true then _ else _) = _
        rw [hpk]
      obtain ⟨⟨q0, okq⟩, hfq⟩ : ∃ x, findN (branchN L j) pk = x := ⟨_, rfl⟩
      have FI := Lib.hid (fun w5 hb => find_is (branchN L j) ak av ac ck cv cc w5 (HR.out.below hb) pk q0 okq (Lib.hid hfq))
      have HANG := Lib.hid (fun w5 hb => hang_is (branchN L j) ak av ac ck cv cc w5 (HR.out.below hb) q0 pk ((j : Int) + 3) gl.1 gl.2.1 (by rw [hfq] at hat; exact hat) (by have := gl.2.2; omega) kb0 (by omega))
      have hq20 : q0 ≤ 20 := by rw [hfq] at hat; have := gl.2.2; have h3 : q0 ≤ (branchN L j).K.length := hat; omega
      unfold hasN at hsuc
      rw [hfq] at hsuc hat
      dsimp only at hsuc hat
      have okq1 := hang_ok (branchN L j) (q0 : Int) pk ((j : Int) + 3) go (by have := gl.2.2; omega) (by have := (wholeB_branch gl.1).1 gl.2.1; have := gl.2.2; omega) kb0 (by omega)
      clear okq1 kb0 gl hpk
      unfold boxC at HN hN
      generalize hn' : branchN L (j + 1) = n' at *
      generalize hn : branchN L j = n at *
      obtain ⟨lf, K, V, C⟩ := n
      dsimp only at HN hN hsuc hat
      unfold nodV at FI HANG
      dsimp only at FI HANG
      have HRK := Lib.hid HR.out.k
      generalize hlk : K.length = lk at *
      generalize hlv : V.length = lv at *
      generalize hlc : C.length = lc at *
      have n0 : wr.cell? ⟨r, 0, none⟩ = some (.bool lf) := by rw [Go.Joins.cell_of_block hN]; rfl
      have n1 : wr.cell? ⟨r, 1, none⟩ = some (.slice ak lk ck) := by rw [Go.Joins.cell_of_block hN]; rfl
      have n2 : wr.cell? ⟨r, 2, none⟩ = some (.slice av lv cv) := by rw [Go.Joins.cell_of_block hN]; rfl
      have n3 : wr.cell? ⟨r, 3, none⟩ = some (.slice ac lc cc) := by rw [Go.Joins.cell_of_block hN]; rfl
      have HNN := Lib.hid hn
      have HSU := Lib.hid hsuc
      clear hN go hn hsuc
      go_wp2_with fail
      refine wp_region_held_drew (S := fun w' => Below wr.heap.size wr w') (by kernel_rfl) (Below.refl wr.heap.size wr).drew (fun hS => ?_)
      refine held_take (i := 0) 20 (v := ?vf0x1) rfl rfl (by kernel_rfl) (by kernel_rfl) (by kernel_rfl) (fun _ _ _ h => h) hS (by rfl) ?hf0x1 ?rf0x1
      case hf0x1 =>
        intro w9 s9
        have cN0 : w9.cell? ⟨r, 0, none⟩ = some (.bool lf) := (s9.cell (p := ⟨r, 0, none⟩) ltN).trans n0
        have cN1 : w9.cell? ⟨r, 1, none⟩ = some (.slice ak lk ck) := (s9.cell (p := ⟨r, 1, none⟩) ltN).trans n1
        have cN2 : w9.cell? ⟨r, 2, none⟩ = some (.slice av lv cv) := (s9.cell (p := ⟨r, 2, none⟩) ltN).trans n2
        have cN3 : w9.cell? ⟨r, 3, none⟩ = some (.slice ac lc cc) := (s9.cell (p := ⟨r, 3, none⟩) ltN).trans n3
        clear s9
        go_simp
        try (with_reducible rfl)
      simp only [List.setIfInBounds_toArray, List.set_cons_zero, List.set_cons_succ]
      refine held_take (i := 1) 21 (v := ?vf1x2) rfl rfl (by kernel_rfl) (by kernel_rfl) (by kernel_rfl) (fun _ _ _ h => h) hS (by rfl) ?hf1x2 ?rf1x2
      case hf1x2 =>
        intro w9 s9
        clear s9
        go_simp
        try (with_reducible rfl)
      simp only [List.setIfInBounds_toArray, List.set_cons_zero, List.set_cons_succ]
      refine held_take (i := 2) 22 (v := ?vf2x3) rfl rfl (by kernel_rfl) (by kernel_rfl) (by kernel_rfl) (fun _ _ _ h => h) hS (by rfl) ?hf2x3 ?rf2x3
      case hf2x3 =>
        intro w9 s9
        clear s9
        go_simp
        try (with_reducible rfl)
      simp only [List.setIfInBounds_toArray, List.set_cons_zero, List.set_cons_succ]
      refine held_take (i := 3) 23 (v := ?vf3x4) rfl rfl (by kernel_rfl) (by kernel_rfl) (by kernel_rfl) (fun _ _ _ h => h) hS (by rfl) ?hf3x4 ?rf3x4
      case hf3x4 =>
        intro w9 s9
        clear s9
        go_simp
        try (with_reducible rfl)
      simp only [List.setIfInBounds_toArray, List.set_cons_zero, List.set_cons_succ]
      refine held_take (i := 4) 24 (v := ?vf4x5) rfl rfl (by kernel_rfl) (by kernel_rfl) (by kernel_rfl) (fun _ _ _ h => h) hS (by rfl) ?hf4x5 ?rf4x5
      case hf4x5 =>
        intro w9 s9
        clear s9
        go_simp
        try (with_reducible rfl)
      simp only [List.setIfInBounds_toArray, List.set_cons_zero, List.set_cons_succ]
      refine held_take (i := 5) 25 (v := ?vf5x6) rfl rfl (by kernel_rfl) (by kernel_rfl) (by kernel_rfl) (fun _ _ _ h => h) hS (by rfl) ?hf5x6 ?rf5x6
      case hf5x6 =>
        intro w9 s9
        have cP : w9.cell? ⟨b, off + j * 2, none⟩ = some (.int .u64 pk) := (s9.cell (p := ⟨b, off + j * 2, none⟩) ltP).trans p0
        clear s9
        go_simp
        try (with_reducible rfl)
      simp only [List.setIfInBounds_toArray, List.set_cons_zero, List.set_cons_succ]
      refine held_step (i := 6) rfl (by kernel_rfl) (fun K hK => ?_)
      have HK := Lib.hid hK
      clear hK
      go_simp
      go_wp2_with fail
      refine (FI.out _ hS).mono ?_
      rintro e v5 ⟨rfl, b5⟩
      refine HK.out _ _ ?_ ?_
      · exact chain hS b5
      clear HK K
      try simp only [Act.put, List.setIfInBounds_toArray, List.set_cons_zero, List.set_cons_succ]
      have hS9 := chain hS b5
      clear hS
      have hS := hS9
      clear hS9
      clear b5
      refine held_take (i := 7) 19 (v := ?vf7x7) rfl rfl (by kernel_rfl) (by kernel_rfl) (by kernel_rfl) (fun _ _ _ h => h) hS (by rfl) ?hf7x7 ?rf7x7
      case hf7x7 =>
        intro w9 s9
        clear s9
        go_simp
        try (with_reducible rfl)
      simp only [List.setIfInBounds_toArray, List.set_cons_zero, List.set_cons_succ]
      refine held_take (i := 8) 27 (v := ?vf8x8) rfl rfl (by kernel_rfl) (by kernel_rfl) (by kernel_rfl) (fun _ _ _ h => h) hS (by rfl) ?hf8x8 ?rf8x8
      case hf8x8 =>
        intro w9 s9
        clear s9
        go_simp
        try (with_reducible rfl)
      simp only [List.setIfInBounds_toArray, List.set_cons_zero, List.set_cons_succ]
      refine held_take (i := 9) 28 (v := ?vf9x9) rfl rfl (by kernel_rfl) (by kernel_rfl) (by kernel_rfl) (fun _ _ _ h => h) hS (by rfl) ?hf9x9 ?rf9x9
      case hf9x9 =>
        intro w9 s9
        clear s9
        go_simp
        try (with_reducible rfl)
      simp only [List.setIfInBounds_toArray, List.set_cons_zero, List.set_cons_succ]
      refine held_take (i := 10) 5 (v := ?vf10x10) rfl rfl (by kernel_rfl) (by kernel_rfl) (by kernel_rfl) (fun _ _ _ h => h) hS (by rfl) ?hf10x10 ?rf10x10
      case hf10x10 =>
        intro w9 s9
        clear s9
        go_simp
        try (with_reducible rfl)
      simp only [List.setIfInBounds_toArray, List.set_cons_zero, List.set_cons_succ]
      refine held_take (i := 11) 6 (v := ?vf11x11) rfl rfl (by kernel_rfl) (by kernel_rfl) (by kernel_rfl) (fun _ _ _ h => h) hS (by rfl) ?hf11x11 ?rf11x11
      case hf11x11 =>
        intro w9 s9
        clear s9
        go_simp
        try (with_reducible rfl)
      simp only [List.setIfInBounds_toArray, List.set_cons_zero, List.set_cons_succ]
      refine wpAnyH_done (by kernel_rfl) ?_ _
      have HS5 := Lib.hid hS
      clear hS
      go_wp2_with fail
      have hrw : w.heap.size ≤ r := by omega
      by_cases hz0 : q0 = 0
      · have hsu := HSU.out
        rw [if_neg (by rw [hz0]; simp)] at hsu
        rw [← hsu] at HANG
        subst hz0
        rw [show ((0 : Nat) : Int) = 0 from rfl] at HANG
        clear hsu HSU
        obtain ⟨lf', K', V', C'⟩ := n'
        have hw9' := hw9.out
        refine wp_region_held_drew (S := fun w' => Below wr.heap.size wr w') (by kernel_rfl) ((HS5.out).drew) (fun hS => ?_)
        refine held_take (i := 0) 29 (v := ?vz0x1) rfl rfl (by kernel_rfl) (by kernel_rfl) (by kernel_rfl) (fun _ _ _ h => h) hS (by rfl) ?hz0x1 ?rz0x1
        case hz0x1 =>
          intro w9 s9
          clear s9
          go_simp
          try (with_reducible rfl)
        simp only [List.setIfInBounds_toArray, List.set_cons_zero, List.set_cons_succ]
        refine held_take (i := 1) 30 (v := ?vz1x2) rfl rfl (by kernel_rfl) (by kernel_rfl) (by kernel_rfl) (fun _ _ _ h => h) hS (by rfl) ?hz1x2 ?rz1x2
        case hz1x2 =>
          intro w9 s9
          clear s9
          go_simp
          try (with_reducible rfl)
        simp only [List.setIfInBounds_toArray, List.set_cons_zero, List.set_cons_succ]
        refine held_take (i := 2) 31 (v := ?vz2x3) rfl rfl (by kernel_rfl) (by kernel_rfl) (by kernel_rfl) (fun _ _ _ h => h) hS (by rfl) ?hz2x3 ?rz2x3
        case hz2x3 =>
          intro w9 s9
          clear s9
          go_simp
          try (with_reducible rfl)
        simp only [List.setIfInBounds_toArray, List.set_cons_zero, List.set_cons_succ]
        refine held_none (i := 3) 32 rfl rfl (by kernel_rfl) (by kernel_rfl) (by kernel_rfl) (fun _ _ _ h => h) hS (by rfl) ?_
        simp only [List.setIfInBounds_toArray, List.set_cons_zero, List.set_cons_succ]
        refine held_none (i := 4) 33 rfl rfl (by kernel_rfl) (by kernel_rfl) (by kernel_rfl) (fun _ _ _ h => h) hS (by rfl) ?_
        simp only [List.setIfInBounds_toArray, List.set_cons_zero, List.set_cons_succ]
        refine held_none (i := 5) 34 rfl rfl (by kernel_rfl) (by kernel_rfl) (by kernel_rfl) (fun _ _ _ h => h) hS (by rfl) ?_
        simp only [List.setIfInBounds_toArray, List.set_cons_zero, List.set_cons_succ]
        refine held_none (i := 6) 35 rfl rfl (by kernel_rfl) (by kernel_rfl) (by kernel_rfl) (fun _ _ _ h => h) hS (by rfl) ?_
        simp only [List.setIfInBounds_toArray, List.set_cons_zero, List.set_cons_succ]
        refine held_none (i := 7) 36 rfl rfl (by kernel_rfl) (by kernel_rfl) (by kernel_rfl) (fun _ _ _ h => h) hS (by rfl) ?_
        simp only [List.setIfInBounds_toArray, List.set_cons_zero, List.set_cons_succ]
        refine held_none (i := 8) 37 rfl rfl (by kernel_rfl) (by kernel_rfl) (by kernel_rfl) (fun _ _ _ h => h) hS (by rfl) ?_
        simp only [List.setIfInBounds_toArray, List.set_cons_zero, List.set_cons_succ]
        refine held_none (i := 9) 38 rfl rfl (by kernel_rfl) (by kernel_rfl) (by kernel_rfl) (fun _ _ _ h => h) hS (by rfl) ?_
        simp only [List.setIfInBounds_toArray, List.set_cons_zero, List.set_cons_succ]
        refine held_none (i := 10) 39 rfl rfl (by kernel_rfl) (by kernel_rfl) (by kernel_rfl) (fun _ _ _ h => h) hS (by rfl) ?_
        simp only [List.setIfInBounds_toArray, List.set_cons_zero, List.set_cons_succ]
        refine held_none (i := 11) 40 rfl rfl (by kernel_rfl) (by kernel_rfl) (by kernel_rfl) (fun _ _ _ h => h) hS (by rfl) ?_
        simp only [List.setIfInBounds_toArray, List.set_cons_zero, List.set_cons_succ]
        refine held_none (i := 12) 41 rfl rfl (by kernel_rfl) (by kernel_rfl) (by kernel_rfl) (fun _ _ _ h => h) hS (by rfl) ?_
        simp only [List.setIfInBounds_toArray, List.set_cons_zero, List.set_cons_succ]
        refine held_none (i := 13) 42 rfl rfl (by kernel_rfl) (by kernel_rfl) (by kernel_rfl) (fun _ _ _ h => h) hS (by rfl) ?_
        simp only [List.setIfInBounds_toArray, List.set_cons_zero, List.set_cons_succ]
        refine held_none (i := 14) 43 rfl rfl (by kernel_rfl) (by kernel_rfl) (by kernel_rfl) (fun _ _ _ h => h) hS (by rfl) ?_
        simp only [List.setIfInBounds_toArray, List.set_cons_zero, List.set_cons_succ]
        refine held_take (i := 15) 44 (v := ?vz15x16) rfl rfl (by kernel_rfl) (by kernel_rfl) (by kernel_rfl) (fun _ _ _ h => h) hS (by rfl) ?hz15x16 ?rz15x16
        case hz15x16 =>
          intro w9 s9
          clear s9
          go_simp
          try (with_reducible rfl)
        simp only [List.setIfInBounds_toArray, List.set_cons_zero, List.set_cons_succ]
        refine wpAnyH_done (by kernel_rfl) ?_ _
        have HS6 := Lib.hid hS
        clear hS HS5
        have HS5 := HS6
        clear HS6
        go_wp2_with fail
        refine region_ways (fun w' => Below wr.heap.size wr w') 10 (by kernel_rfl) ?_
        have hS := ((HS5.out).drew)
        refine ways_taked (i := 0) 45 (v := ?vp0) rfl rfl (by kernel_rfl) (by kernel_rfl) (by kernel_rfl) (by kernel_rfl) (fun _ _ _ h => h) hS (by rfl) ?hp0 ?rp0
        case hp0 =>
          intro w9 s9
          have cN0 : w9.cell? ⟨r, 0, none⟩ = some (.bool lf) := (s9.cell (p := ⟨r, 0, none⟩) ltN).trans n0
          have cN1 : w9.cell? ⟨r, 1, none⟩ = some (.slice ak lk ck) := (s9.cell (p := ⟨r, 1, none⟩) ltN).trans n1
          have cN2 : w9.cell? ⟨r, 2, none⟩ = some (.slice av lv cv) := (s9.cell (p := ⟨r, 2, none⟩) ltN).trans n2
          have cN3 : w9.cell? ⟨r, 3, none⟩ = some (.slice ac lc cc) := (s9.cell (p := ⟨r, 3, none⟩) ltN).trans n3
          go_simp
          try (with_reducible rfl)
        simp only [List.setIfInBounds_toArray, List.set_cons_zero, List.set_cons_succ]
        refine ways_skipd (i := 1) 46 (v := ?vp1) rfl rfl (by kernel_rfl) (by kernel_rfl) (by kernel_rfl) (by kernel_rfl) (fun _ _ _ h => h) hS (by rfl) ?hp1 ?rp1
        case hp1 =>
          intro w9
          go_simp
          try (with_reducible rfl)
        simp only [List.setIfInBounds_toArray, List.set_cons_zero, List.set_cons_succ]
        refine ways_skipd (i := 2) 47 (v := ?vp2) rfl rfl (by kernel_rfl) (by kernel_rfl) (by kernel_rfl) (by kernel_rfl) (fun _ _ _ h => h) hS (by rfl) ?hp2 ?rp2
        case hp2 =>
          intro w9
          go_simp
          try (with_reducible rfl)
        simp only [List.setIfInBounds_toArray, List.set_cons_zero, List.set_cons_succ]
        refine ways_skipd (i := 3) 48 (v := ?vp3) rfl rfl (by kernel_rfl) (by kernel_rfl) (by kernel_rfl) (by kernel_rfl) (fun _ _ _ h => h) hS (by rfl) ?hp3 ?rp3
        case hp3 =>
          intro w9
          go_simp
          try (with_reducible rfl)
        simp only [List.setIfInBounds_toArray, List.set_cons_zero, List.set_cons_succ]
        refine ways_skipd (i := 4) 49 (v := ?vp4) rfl rfl (by kernel_rfl) (by kernel_rfl) (by kernel_rfl) (by kernel_rfl) (fun _ _ _ h => h) hS (by rfl) ?hp4 ?rp4
        case hp4 =>
          intro w9
          go_simp
          try (with_reducible rfl)
        simp only [List.setIfInBounds_toArray, List.set_cons_zero, List.set_cons_succ]
        refine ways_skipd (i := 5) 50 (v := ?vp5) rfl rfl (by kernel_rfl) (by kernel_rfl) (by kernel_rfl) (by kernel_rfl) (fun _ _ _ h => h) hS (by rfl) ?hp5 ?rp5
        case hp5 =>
          intro w9
          go_simp
          try (with_reducible rfl)
        simp only [List.setIfInBounds_toArray, List.set_cons_zero, List.set_cons_succ]
        refine ways_taked (i := 6) 51 (v := ?vp6) rfl rfl (by kernel_rfl) (by kernel_rfl) (by kernel_rfl) (by kernel_rfl) (fun _ _ _ h => h) hS (by rfl) ?hp6 ?rp6
        case hp6 =>
          intro w9 s9
          have cP : w9.cell? ⟨b, off + j * 2, none⟩ = some (.int .u64 pk) := (s9.cell (p := ⟨b, off + j * 2, none⟩) ltP).trans p0
          go_simp
          try (with_reducible rfl)
        simp only [List.setIfInBounds_toArray, List.set_cons_zero, List.set_cons_succ]
        refine ways_skipd (i := 7) 52 (v := ?vp7) rfl rfl (by kernel_rfl) (by kernel_rfl) (by kernel_rfl) (by kernel_rfl) (fun _ _ _ h => h) hS (by rfl) ?hp7 ?rp7
        case hp7 =>
          intro w9
          go_simp
          try (with_reducible rfl)
        simp only [List.setIfInBounds_toArray, List.set_cons_zero, List.set_cons_succ]
        refine ways_skipd (i := 8) 53 (v := ?vp8) rfl rfl (by kernel_rfl) (by kernel_rfl) (by kernel_rfl) (by kernel_rfl) (fun _ _ _ h => h) hS (by rfl) ?hp8 ?rp8
        case hp8 =>
          intro w9
          go_simp
          try (with_reducible rfl)
        simp only [List.setIfInBounds_toArray, List.set_cons_zero, List.set_cons_succ]
        refine ways_step (i := 9) rfl (by kernel_rfl) (fun K hK => ?_)
        have HK := Lib.hid hK
        clear hK
        go_simp
        have ltC := Nat.lt_of_lt_of_le ltN hS.size
        go_wp2_with fail
        ((with_reducible refine (HANG.out _ hS).mono ?_))
        rintro e v7 ⟨⟨ak', av', ac', ck', cv', cc', rfl, hR7, q1, q2, q3⟩, b7⟩
        have hS9 := chain hS b7
        clear hS
        have hS := hS9
        clear hS9
        have XB := kept HN.out hS
        have RB := kept HZ.out hS
        have HB7 := Lib.hid (chain HB.out hS)
        have y0 : v7.cell? ⟨r, 0, none⟩ = some (.bool lf) := by rw [Go.Joins.cell_of_block XB]; rfl
        have y1 : v7.cell? ⟨r, 1, none⟩ = some (.slice ak lk ck) := by rw [Go.Joins.cell_of_block XB]; rfl
        have y2 : v7.cell? ⟨r, 2, none⟩ = some (.slice av lv cv) := by rw [Go.Joins.cell_of_block XB]; rfl
        have y3 : v7.cell? ⟨r, 3, none⟩ = some (.slice ac lc cc) := by rw [Go.Joins.cell_of_block XB]; rfl
        have f0 := Go.Joins.unfrozen_of_block XB 0
        have f1 := Go.Joins.unfrozen_of_block XB 1
        have f2 := Go.Joins.unfrozen_of_block XB 2
        have f3 := Go.Joins.unfrozen_of_block XB 3
        have XR : ((((v7.setCell ⟨r, 0, none⟩ (.bool lf')).setCell ⟨r, 1, none⟩ (.slice ak' K'.length ck')).setCell ⟨r, 2, none⟩ (.slice av' V'.length cv')).setCell ⟨r, 3, none⟩ (.slice ac' C'.length cc')).heap[r]? = some (.cells #[.bool lf', .slice ak' K'.length ck', .slice av' V'.length cv', .slice ac' C'.length cc'] 26) := by
          rw [heap_setCell_same _ _ 3 _ _ _ (heap_setCell_same _ _ 2 _ _ _ (heap_setCell_same _ _ 1 _ _ _ (heap_setCell_same _ _ 0 _ _ _ XB)))]
          rfl
        have RR : ((((v7.setCell ⟨r, 0, none⟩ (.bool lf')).setCell ⟨r, 1, none⟩ (.slice ak' K'.length ck')).setCell ⟨r, 2, none⟩ (.slice av' V'.length cv')).setCell ⟨r, 3, none⟩ (.slice ac' C'.length cc')).heap[w.heap.size]? = some (.cells #[.bool false, .slice none 0 0, .slice none 0 0, .slice none 0 0] 26) := by
          have hne : ∀ i, w.heap.size ≠ (⟨r, i, none⟩ : Addr).block := fun i => by show w.heap.size ≠ r; omega
          rw [Below.heap_setCell _ _ _ _ (hne 3), Below.heap_setCell _ _ _ _ (hne 2), Below.heap_setCell _ _ _ _ (hne 1), Below.heap_setCell _ _ _ _ (hne 0)]
          exact RB
        have FIN : Hid (BranchI w r L m (j + 1) ((((v7.setCell ⟨r, 0, none⟩ (.bool lf')).setCell ⟨r, 1, none⟩ (.slice ak' K'.length ck')).setCell ⟨r, 2, none⟩ (.slice av' V'.length cv')).setCell ⟨r, 3, none⟩ (.slice ac' C'.length cc'))) := Lib.hid ⟨ak', av', ac', ck', cv', cc', by omega, by omega, by rw [hn']; exact XR, RR, by rw [hn']; exact hR7.set4N _ _ _ _ _ (fun x hx => Nat.ne_of_gt (Nat.lt_of_lt_of_le ltC (q1 x hx))) (fun x hx => Nat.ne_of_gt (Nat.lt_of_lt_of_le ltC (q2 x hx))) (fun x hx => Nat.ne_of_gt (Nat.lt_of_lt_of_le ltC (q3 x hx))),
          (fun x hx => ⟨Nat.ne_of_gt (Nat.lt_of_lt_of_le ltC (q1 x hx)), by have := Nat.lt_of_lt_of_le ltC (q1 x hx); omega⟩), (fun x hx => ⟨Nat.ne_of_gt (Nat.lt_of_lt_of_le ltC (q2 x hx)), by have := Nat.lt_of_lt_of_le ltC (q2 x hx); omega⟩), (fun x hx => ⟨Nat.ne_of_gt (Nat.lt_of_lt_of_le ltC (q3 x hx)), by have := Nat.lt_of_lt_of_le ltC (q3 x hx); omega⟩), ((((HB7.out).setCell hrw _).setCell hrw _).setCell hrw _).setCell hrw _⟩
        clear XB RB hR7 q1 q2 q3 b7 HANG XR RR
        simp only [nodV]
        refine HK.out _ _ ?_ (fun _ => hS)
        clear HK K
        try simp only [Act.put, List.setIfInBounds_toArray, List.set_cons_zero, List.set_cons_succ]
        refine ways_step (i := 10) rfl (by kernel_rfl) (fun K hK => ?_)
        have HK := Lib.hid hK
        clear hK
        go_simp
        refine HK.out _ _ ?_ (fun h => absurd rfl h)
        clear HK K
        refine ways_done (by kernel_rfl) ?_
        go_wp2_with fail
        go_roundw
        case rel => exact ⟨j + 1, by go_num, FIN.out⟩
        case measure => simp [intOf]; omega
      · obtain ⟨q, rfl⟩ : ∃ q, q0 = q + 1 := ⟨q0 - 1, by omega⟩
        have hqk : q < (K.map ukey).length := by simp; omega
        obtain ⟨kb, ko, rfl, ltK, kx⟩ := HRK.out.at q hqk
        have hkv : (K.map ukey)[q] = .int .u64 (K.getD q 0) := by
          rw [List.getElem_map, List.getD_eq_getElem?_getD, List.getElem?_eq_getElem (by omega)]
          rfl
        rw [hkv] at kx
        have hsu := HSU.out
        rw [show q + 1 - 1 = q from rfl] at hsu
        generalize K.getD q 0 = kv at *
        have hql : (q : Int) < (lk : Int) := by omega
        have hq0 : (0 : Int) < (q : Int) + 1 := by omega
        have hwq : IntKind.i64.wrap (q : Int) = (q : Int) := IntWalk.i64_in _ (by omega)
        by_cases hkp : kv = pk
        · rw [if_pos (by rw [hkp]; simp)] at hsu
          have HSU2 := Lib.hid hsu
          clear hsu HSU hkv
          rw [hkp] at kx
          refine wp_region_held_drew (S := fun w' => Below wr.heap.size wr w') (by kernel_rfl) ((HS5.out).drew) (fun hS => ?_)
          refine held_take (i := 0) 29 (v := ?vy0x1) rfl rfl (by kernel_rfl) (by kernel_rfl) (by kernel_rfl) (fun _ _ _ h => h) hS (by rfl) ?hy0x1 ?ry0x1
          case hy0x1 =>
            intro w9 s9
            clear s9
            go_simp
            try (with_reducible rfl)
          simp only [List.setIfInBounds_toArray, List.set_cons_zero, List.set_cons_succ]
          refine held_take (i := 1) 30 (v := ?vy1x2) rfl rfl (by kernel_rfl) (by kernel_rfl) (by kernel_rfl) (fun _ _ _ h => h) hS (by rfl) ?hy1x2 ?ry1x2
          case hy1x2 =>
            intro w9 s9
            clear s9
            go_simp
            try (with_reducible rfl)
          simp only [List.setIfInBounds_toArray, List.set_cons_zero, List.set_cons_succ]
          refine held_take (i := 2) 31 (v := ?vy2x3) rfl rfl (by kernel_rfl) (by kernel_rfl) (by kernel_rfl) (fun _ _ _ h => h) hS (by rfl) ?hy2x3 ?ry2x3
          case hy2x3 =>
            intro w9 s9
            clear s9
            go_simp
            try (with_reducible rfl)
          simp only [List.setIfInBounds_toArray, List.set_cons_zero, List.set_cons_succ]
          refine held_take (i := 3) 32 (v := ?vy3x4) rfl rfl (by kernel_rfl) (by kernel_rfl) (by kernel_rfl) (fun _ _ _ h => h) hS (by rfl) ?hy3x4 ?ry3x4
          case hy3x4 =>
            intro w9 s9
            clear s9
            go_simp
            try (with_reducible rfl)
          simp only [List.setIfInBounds_toArray, List.set_cons_zero, List.set_cons_succ]
          refine held_take (i := 4) 33 (v := ?vy4x5) rfl rfl (by kernel_rfl) (by kernel_rfl) (by kernel_rfl) (fun _ _ _ h => h) hS (by rfl) ?hy4x5 ?ry4x5
          case hy4x5 =>
            intro w9 s9
            have cN1 : w9.cell? ⟨r, 1, none⟩ = some (.slice (some ⟨kb, ko, none⟩) lk ck) := (s9.cell (p := ⟨r, 1, none⟩) ltN).trans n1
            clear s9
            go_simp
            try (with_reducible rfl)
          simp only [List.setIfInBounds_toArray, List.set_cons_zero, List.set_cons_succ]
          refine held_take (i := 5) 34 (v := ?vy5x6) rfl rfl (by kernel_rfl) (by kernel_rfl) (by kernel_rfl) (fun _ _ _ h => h) hS (by rfl) ?hy5x6 ?ry5x6
          case hy5x6 =>
            intro w9 s9
            clear s9
            go_simp
            try (with_reducible rfl)
          simp only [List.setIfInBounds_toArray, List.set_cons_zero, List.set_cons_succ]
          refine held_take (i := 6) 35 (v := ?vy6x7) rfl rfl (by kernel_rfl) (by kernel_rfl) (by kernel_rfl) (fun _ _ _ h => h) hS (by rfl) ?hy6x7 ?ry6x7
          case hy6x7 =>
            intro w9 s9
            clear s9
            go_simp
            try (with_reducible rfl)
          simp only [List.setIfInBounds_toArray, List.set_cons_zero, List.set_cons_succ]
          refine held_take (i := 7) 36 (v := ?vy7x8) rfl rfl (by kernel_rfl) (by kernel_rfl) (by kernel_rfl) (fun _ _ _ h => h) hS (by rfl) ?hy7x8 ?ry7x8
          case hy7x8 =>
            intro w9 s9
            clear s9
            go_simp
            try (with_reducible rfl)
          simp only [List.setIfInBounds_toArray, List.set_cons_zero, List.set_cons_succ]
          refine held_take (i := 8) 37 (v := ?vy8x9) rfl rfl (by kernel_rfl) (by kernel_rfl) (by kernel_rfl) (fun _ _ _ h => h) hS (by rfl) ?hy8x9 ?ry8x9
          case hy8x9 =>
            intro w9 s9
            have cX : w9.cell? ⟨kb, ko + q, none⟩ = some (.int .u64 pk) := (s9.cell (p := ⟨kb, ko + q, none⟩) ltK).trans kx
            clear s9
            go_simp
            try (with_reducible rfl)
          simp only [List.setIfInBounds_toArray, List.set_cons_zero, List.set_cons_succ]
          refine held_take (i := 9) 38 (v := ?vy9x10) rfl rfl (by kernel_rfl) (by kernel_rfl) (by kernel_rfl) (fun _ _ _ h => h) hS (by rfl) ?hy9x10 ?ry9x10
          case hy9x10 =>
            intro w9 s9
            clear s9
            go_simp
            try (with_reducible rfl)
          simp only [List.setIfInBounds_toArray, List.set_cons_zero, List.set_cons_succ]
          refine held_take (i := 10) 39 (v := ?vy10x11) rfl rfl (by kernel_rfl) (by kernel_rfl) (by kernel_rfl) (fun _ _ _ h => h) hS (by rfl) ?hy10x11 ?ry10x11
          case hy10x11 =>
            intro w9 s9
            clear s9
            go_simp
            try (with_reducible rfl)
          simp only [List.setIfInBounds_toArray, List.set_cons_zero, List.set_cons_succ]
          refine held_take (i := 11) 40 (v := ?vy11x12) rfl rfl (by kernel_rfl) (by kernel_rfl) (by kernel_rfl) (fun _ _ _ h => h) hS (by rfl) ?hy11x12 ?ry11x12
          case hy11x12 =>
            intro w9 s9
            clear s9
            go_simp
            try (with_reducible rfl)
          simp only [List.setIfInBounds_toArray, List.set_cons_zero, List.set_cons_succ]
          refine held_take (i := 12) 41 (v := ?vy12x13) rfl rfl (by kernel_rfl) (by kernel_rfl) (by kernel_rfl) (fun _ _ _ h => h) hS (by rfl) ?hy12x13 ?ry12x13
          case hy12x13 =>
            intro w9 s9
            clear s9
            go_simp
            try (with_reducible rfl)
          simp only [List.setIfInBounds_toArray, List.set_cons_zero, List.set_cons_succ]
          refine held_take (i := 13) 42 (v := ?vy13x14) rfl rfl (by kernel_rfl) (by kernel_rfl) (by kernel_rfl) (fun _ _ _ h => h) hS (by rfl) ?hy13x14 ?ry13x14
          case hy13x14 =>
            intro w9 s9
            have cP : w9.cell? ⟨b, off + j * 2, none⟩ = some (.int .u64 pk) := (s9.cell (p := ⟨b, off + j * 2, none⟩) ltP).trans p0
            clear s9
            go_simp
            try (with_reducible rfl)
          simp only [List.setIfInBounds_toArray, List.set_cons_zero, List.set_cons_succ]
          refine held_take (i := 14) 43 (v := ?vy14x15) rfl rfl (by kernel_rfl) (by kernel_rfl) (by kernel_rfl) (fun _ _ _ h => h) hS (by rfl) ?hy14x15 ?ry14x15
          case hy14x15 =>
            intro w9 s9
            clear s9
            go_simp
            try (with_reducible rfl)
          simp only [List.setIfInBounds_toArray, List.set_cons_zero, List.set_cons_succ]
          refine held_take (i := 15) 44 (v := ?vy15x16) rfl rfl (by kernel_rfl) (by kernel_rfl) (by kernel_rfl) (fun _ _ _ h => h) hS (by rfl) ?hy15x16 ?ry15x16
          case hy15x16 =>
            intro w9 s9
            clear s9
            go_simp
            try (with_reducible rfl)
          simp only [List.setIfInBounds_toArray, List.set_cons_zero, List.set_cons_succ]
          refine wpAnyH_done (by kernel_rfl) ?_ _
          have HS6 := Lib.hid hS
          clear hS HS5
          have HS5 := HS6
          clear HS6
          go_wp2_with fail
          go_roundw
          case rel =>
            refine ⟨j + 1, by go_num, some ⟨kb, ko, none⟩, av, ac, ck, cv, cc, by omega, by omega, ?_, kept HZ.out HS5.out, ?_, G1.out, G2.out, G3.out, chain HB.out HS5.out⟩
            · rw [hn', HSU2.out]
              unfold boxC
              dsimp only
              rw [hlk, hlv, hlc]
              exact kept HN.out HS5.out
            · rw [hn', HSU2.out]
              exact HR.out.below HS5.out
          case measure => simp [intOf]; omega
        · rw [if_neg (by simp; exact hkp)] at hsu
          rw [← hsu] at HANG
          have hkb : (kv == pk) = false := by simpa using hkp
          clear hsu HSU hkv hkp
          obtain ⟨lf', K', V', C'⟩ := n'
          have hw9' := hw9.out
          rw [show ((q + 1 : Nat) : Int) = (q : Int) + 1 from by simp] at HANG
          refine wp_region_held_drew (S := fun w' => Below wr.heap.size wr w') (by kernel_rfl) ((HS5.out).drew) (fun hS => ?_)
          refine held_take (i := 0) 29 (v := ?vn0x1) rfl rfl (by kernel_rfl) (by kernel_rfl) (by kernel_rfl) (fun _ _ _ h => h) hS (by rfl) ?hn0x1 ?rn0x1
          case hn0x1 =>
            intro w9 s9
            clear s9
            go_simp
            try (with_reducible rfl)
          simp only [List.setIfInBounds_toArray, List.set_cons_zero, List.set_cons_succ]
          refine held_take (i := 1) 30 (v := ?vn1x2) rfl rfl (by kernel_rfl) (by kernel_rfl) (by kernel_rfl) (fun _ _ _ h => h) hS (by rfl) ?hn1x2 ?rn1x2
          case hn1x2 =>
            intro w9 s9
            clear s9
            go_simp
            try (with_reducible rfl)
          simp only [List.setIfInBounds_toArray, List.set_cons_zero, List.set_cons_succ]
          refine held_take (i := 2) 31 (v := ?vn2x3) rfl rfl (by kernel_rfl) (by kernel_rfl) (by kernel_rfl) (fun _ _ _ h => h) hS (by rfl) ?hn2x3 ?rn2x3
          case hn2x3 =>
            intro w9 s9
            clear s9
            go_simp
            try (with_reducible rfl)
          simp only [List.setIfInBounds_toArray, List.set_cons_zero, List.set_cons_succ]
          refine held_take (i := 3) 32 (v := ?vn3x4) rfl rfl (by kernel_rfl) (by kernel_rfl) (by kernel_rfl) (fun _ _ _ h => h) hS (by rfl) ?hn3x4 ?rn3x4
          case hn3x4 =>
            intro w9 s9
            clear s9
            go_simp
            try (with_reducible rfl)
          simp only [List.setIfInBounds_toArray, List.set_cons_zero, List.set_cons_succ]
          refine held_take (i := 4) 33 (v := ?vn4x5) rfl rfl (by kernel_rfl) (by kernel_rfl) (by kernel_rfl) (fun _ _ _ h => h) hS (by rfl) ?hn4x5 ?rn4x5
          case hn4x5 =>
            intro w9 s9
            have cN1 : w9.cell? ⟨r, 1, none⟩ = some (.slice (some ⟨kb, ko, none⟩) lk ck) := (s9.cell (p := ⟨r, 1, none⟩) ltN).trans n1
            clear s9
            go_simp
            try (with_reducible rfl)
          simp only [List.setIfInBounds_toArray, List.set_cons_zero, List.set_cons_succ]
          refine held_take (i := 5) 34 (v := ?vn5x6) rfl rfl (by kernel_rfl) (by kernel_rfl) (by kernel_rfl) (fun _ _ _ h => h) hS (by rfl) ?hn5x6 ?rn5x6
          case hn5x6 =>
            intro w9 s9
            clear s9
            go_simp
            try (with_reducible rfl)
          simp only [List.setIfInBounds_toArray, List.set_cons_zero, List.set_cons_succ]
          refine held_take (i := 6) 35 (v := ?vn6x7) rfl rfl (by kernel_rfl) (by kernel_rfl) (by kernel_rfl) (fun _ _ _ h => h) hS (by rfl) ?hn6x7 ?rn6x7
          case hn6x7 =>
            intro w9 s9
            clear s9
            go_simp
            try (with_reducible rfl)
          simp only [List.setIfInBounds_toArray, List.set_cons_zero, List.set_cons_succ]
          refine held_take (i := 7) 36 (v := ?vn7x8) rfl rfl (by kernel_rfl) (by kernel_rfl) (by kernel_rfl) (fun _ _ _ h => h) hS (by rfl) ?hn7x8 ?rn7x8
          case hn7x8 =>
            intro w9 s9
            clear s9
            go_simp
            try (with_reducible rfl)
          simp only [List.setIfInBounds_toArray, List.set_cons_zero, List.set_cons_succ]
          refine held_take (i := 8) 37 (v := ?vn8x9) rfl rfl (by kernel_rfl) (by kernel_rfl) (by kernel_rfl) (fun _ _ _ h => h) hS (by rfl) ?hn8x9 ?rn8x9
          case hn8x9 =>
            intro w9 s9
            have cX : w9.cell? ⟨kb, ko + q, none⟩ = some (.int .u64 kv) := (s9.cell (p := ⟨kb, ko + q, none⟩) ltK).trans kx
            clear s9
            go_simp
            try (with_reducible rfl)
          simp only [List.setIfInBounds_toArray, List.set_cons_zero, List.set_cons_succ]
          refine held_take (i := 9) 38 (v := ?vn9x10) rfl rfl (by kernel_rfl) (by kernel_rfl) (by kernel_rfl) (fun _ _ _ h => h) hS (by rfl) ?hn9x10 ?rn9x10
          case hn9x10 =>
            intro w9 s9
            clear s9
            go_simp
            try (with_reducible rfl)
          simp only [List.setIfInBounds_toArray, List.set_cons_zero, List.set_cons_succ]
          refine held_take (i := 10) 39 (v := ?vn10x11) rfl rfl (by kernel_rfl) (by kernel_rfl) (by kernel_rfl) (fun _ _ _ h => h) hS (by rfl) ?hn10x11 ?rn10x11
          case hn10x11 =>
            intro w9 s9
            clear s9
            go_simp
            try (with_reducible rfl)
          simp only [List.setIfInBounds_toArray, List.set_cons_zero, List.set_cons_succ]
          refine held_take (i := 11) 40 (v := ?vn11x12) rfl rfl (by kernel_rfl) (by kernel_rfl) (by kernel_rfl) (fun _ _ _ h => h) hS (by rfl) ?hn11x12 ?rn11x12
          case hn11x12 =>
            intro w9 s9
            clear s9
            go_simp
            try (with_reducible rfl)
          simp only [List.setIfInBounds_toArray, List.set_cons_zero, List.set_cons_succ]
          refine held_take (i := 12) 41 (v := ?vn12x13) rfl rfl (by kernel_rfl) (by kernel_rfl) (by kernel_rfl) (fun _ _ _ h => h) hS (by rfl) ?hn12x13 ?rn12x13
          case hn12x13 =>
            intro w9 s9
            clear s9
            go_simp
            try (with_reducible rfl)
          simp only [List.setIfInBounds_toArray, List.set_cons_zero, List.set_cons_succ]
          refine held_take (i := 13) 42 (v := ?vn13x14) rfl rfl (by kernel_rfl) (by kernel_rfl) (by kernel_rfl) (fun _ _ _ h => h) hS (by rfl) ?hn13x14 ?rn13x14
          case hn13x14 =>
            intro w9 s9
            have cP : w9.cell? ⟨b, off + j * 2, none⟩ = some (.int .u64 pk) := (s9.cell (p := ⟨b, off + j * 2, none⟩) ltP).trans p0
            clear s9
            go_simp
            try (with_reducible rfl)
          simp only [List.setIfInBounds_toArray, List.set_cons_zero, List.set_cons_succ]
          refine held_take (i := 14) 43 (v := ?vn14x15) rfl rfl (by kernel_rfl) (by kernel_rfl) (by kernel_rfl) (fun _ _ _ h => h) hS (by rfl) ?hn14x15 ?rn14x15
          case hn14x15 =>
            intro w9 s9
            clear s9
            go_simp
            try (with_reducible rfl)
          simp only [List.setIfInBounds_toArray, List.set_cons_zero, List.set_cons_succ]
          refine held_take (i := 15) 44 (v := ?vn15x16) rfl rfl (by kernel_rfl) (by kernel_rfl) (by kernel_rfl) (fun _ _ _ h => h) hS (by rfl) ?hn15x16 ?rn15x16
          case hn15x16 =>
            intro w9 s9
            clear s9
            go_simp
            try (with_reducible rfl)
          simp only [List.setIfInBounds_toArray, List.set_cons_zero, List.set_cons_succ]
          refine wpAnyH_done (by kernel_rfl) ?_ _
          have HS6 := Lib.hid hS
          clear hS HS5
          have HS5 := HS6
          clear HS6
          go_wp2_with fail
          refine region_ways (fun w' => Below wr.heap.size wr w') 10 (by kernel_rfl) ?_
          have hS := ((HS5.out).drew)
          refine ways_taked (i := 0) 45 (v := ?vs0) rfl rfl (by kernel_rfl) (by kernel_rfl) (by kernel_rfl) (by kernel_rfl) (fun _ _ _ h => h) hS (by rfl) ?hs0 ?rs0
          case hs0 =>
            intro w9 s9
            have cN0 : w9.cell? ⟨r, 0, none⟩ = some (.bool lf) := (s9.cell (p := ⟨r, 0, none⟩) ltN).trans n0
            have cN1 : w9.cell? ⟨r, 1, none⟩ = some (.slice (some ⟨kb, ko, none⟩) lk ck) := (s9.cell (p := ⟨r, 1, none⟩) ltN).trans n1
            have cN2 : w9.cell? ⟨r, 2, none⟩ = some (.slice av lv cv) := (s9.cell (p := ⟨r, 2, none⟩) ltN).trans n2
            have cN3 : w9.cell? ⟨r, 3, none⟩ = some (.slice ac lc cc) := (s9.cell (p := ⟨r, 3, none⟩) ltN).trans n3
            go_simp
            try (with_reducible rfl)
          simp only [List.setIfInBounds_toArray, List.set_cons_zero, List.set_cons_succ]
          refine ways_skipd (i := 1) 46 (v := ?vs1) rfl rfl (by kernel_rfl) (by kernel_rfl) (by kernel_rfl) (by kernel_rfl) (fun _ _ _ h => h) hS (by rfl) ?hs1 ?rs1
          case hs1 =>
            intro w9
            go_simp
            try (with_reducible rfl)
          simp only [List.setIfInBounds_toArray, List.set_cons_zero, List.set_cons_succ]
          refine ways_skipd (i := 2) 47 (v := ?vs2) rfl rfl (by kernel_rfl) (by kernel_rfl) (by kernel_rfl) (by kernel_rfl) (fun _ _ _ h => h) hS (by rfl) ?hs2 ?rs2
          case hs2 =>
            intro w9
            go_simp
            try (with_reducible rfl)
          simp only [List.setIfInBounds_toArray, List.set_cons_zero, List.set_cons_succ]
          refine ways_skipd (i := 3) 48 (v := ?vs3) rfl rfl (by kernel_rfl) (by kernel_rfl) (by kernel_rfl) (by kernel_rfl) (fun _ _ _ h => h) hS (by rfl) ?hs3 ?rs3
          case hs3 =>
            intro w9
            go_simp
            try (with_reducible rfl)
          simp only [List.setIfInBounds_toArray, List.set_cons_zero, List.set_cons_succ]
          refine ways_skipd (i := 4) 49 (v := ?vs4) rfl rfl (by kernel_rfl) (by kernel_rfl) (by kernel_rfl) (by kernel_rfl) (fun _ _ _ h => h) hS (by rfl) ?hs4 ?rs4
          case hs4 =>
            intro w9
            go_simp
            try (with_reducible rfl)
          simp only [List.setIfInBounds_toArray, List.set_cons_zero, List.set_cons_succ]
          refine ways_skipd (i := 5) 50 (v := ?vs5) rfl rfl (by kernel_rfl) (by kernel_rfl) (by kernel_rfl) (by kernel_rfl) (fun _ _ _ h => h) hS (by rfl) ?hs5 ?rs5
          case hs5 =>
            intro w9
            go_simp
            try (with_reducible rfl)
          simp only [List.setIfInBounds_toArray, List.set_cons_zero, List.set_cons_succ]
          refine ways_taked (i := 6) 51 (v := ?vs6) rfl rfl (by kernel_rfl) (by kernel_rfl) (by kernel_rfl) (by kernel_rfl) (fun _ _ _ h => h) hS (by rfl) ?hs6 ?rs6
          case hs6 =>
            intro w9 s9
            have cP : w9.cell? ⟨b, off + j * 2, none⟩ = some (.int .u64 pk) := (s9.cell (p := ⟨b, off + j * 2, none⟩) ltP).trans p0
            go_simp
            try (with_reducible rfl)
          simp only [List.setIfInBounds_toArray, List.set_cons_zero, List.set_cons_succ]
          refine ways_skipd (i := 7) 52 (v := ?vs7) rfl rfl (by kernel_rfl) (by kernel_rfl) (by kernel_rfl) (by kernel_rfl) (fun _ _ _ h => h) hS (by rfl) ?hs7 ?rs7
          case hs7 =>
            intro w9
            go_simp
            try (with_reducible rfl)
          simp only [List.setIfInBounds_toArray, List.set_cons_zero, List.set_cons_succ]
          refine ways_skipd (i := 8) 53 (v := ?vs8) rfl rfl (by kernel_rfl) (by kernel_rfl) (by kernel_rfl) (by kernel_rfl) (fun _ _ _ h => h) hS (by rfl) ?hs8 ?rs8
          case hs8 =>
            intro w9
            go_simp
            try (with_reducible rfl)
          simp only [List.setIfInBounds_toArray, List.set_cons_zero, List.set_cons_succ]
          refine ways_step (i := 9) rfl (by kernel_rfl) (fun K hK => ?_)
          have HK := Lib.hid hK
          clear hK
          go_simp
          have ltC := Nat.lt_of_lt_of_le ltN hS.size
          go_wp2_with fail
          ((with_reducible refine (HANG.out _ hS).mono ?_))
          rintro e v7 ⟨⟨ak', av', ac', ck', cv', cc', rfl, hR7, q1, q2, q3⟩, b7⟩
          have hS9 := chain hS b7
          clear hS
          have hS := hS9
          clear hS9
          have XB := kept HN.out hS
          have RB := kept HZ.out hS
          have HB7 := Lib.hid (chain HB.out hS)
          have y0 : v7.cell? ⟨r, 0, none⟩ = some (.bool lf) := by rw [Go.Joins.cell_of_block XB]; rfl
          have y1 : v7.cell? ⟨r, 1, none⟩ = some (.slice (some ⟨kb, ko, none⟩) lk ck) := by rw [Go.Joins.cell_of_block XB]; rfl
          have y2 : v7.cell? ⟨r, 2, none⟩ = some (.slice av lv cv) := by rw [Go.Joins.cell_of_block XB]; rfl
          have y3 : v7.cell? ⟨r, 3, none⟩ = some (.slice ac lc cc) := by rw [Go.Joins.cell_of_block XB]; rfl
          have f0 := Go.Joins.unfrozen_of_block XB 0
          have f1 := Go.Joins.unfrozen_of_block XB 1
          have f2 := Go.Joins.unfrozen_of_block XB 2
          have f3 := Go.Joins.unfrozen_of_block XB 3
          have XR : ((((v7.setCell ⟨r, 0, none⟩ (.bool lf')).setCell ⟨r, 1, none⟩ (.slice ak' K'.length ck')).setCell ⟨r, 2, none⟩ (.slice av' V'.length cv')).setCell ⟨r, 3, none⟩ (.slice ac' C'.length cc')).heap[r]? = some (.cells #[.bool lf', .slice ak' K'.length ck', .slice av' V'.length cv', .slice ac' C'.length cc'] 26) := by
            rw [heap_setCell_same _ _ 3 _ _ _ (heap_setCell_same _ _ 2 _ _ _ (heap_setCell_same _ _ 1 _ _ _ (heap_setCell_same _ _ 0 _ _ _ XB)))]
            rfl
          have RR : ((((v7.setCell ⟨r, 0, none⟩ (.bool lf')).setCell ⟨r, 1, none⟩ (.slice ak' K'.length ck')).setCell ⟨r, 2, none⟩ (.slice av' V'.length cv')).setCell ⟨r, 3, none⟩ (.slice ac' C'.length cc')).heap[w.heap.size]? = some (.cells #[.bool false, .slice none 0 0, .slice none 0 0, .slice none 0 0] 26) := by
            have hne : ∀ i, w.heap.size ≠ (⟨r, i, none⟩ : Addr).block := fun i => by show w.heap.size ≠ r; omega
            rw [Below.heap_setCell _ _ _ _ (hne 3), Below.heap_setCell _ _ _ _ (hne 2), Below.heap_setCell _ _ _ _ (hne 1), Below.heap_setCell _ _ _ _ (hne 0)]
            exact RB
          have FIN : Hid (BranchI w r L m (j + 1) ((((v7.setCell ⟨r, 0, none⟩ (.bool lf')).setCell ⟨r, 1, none⟩ (.slice ak' K'.length ck')).setCell ⟨r, 2, none⟩ (.slice av' V'.length cv')).setCell ⟨r, 3, none⟩ (.slice ac' C'.length cc'))) := Lib.hid ⟨ak', av', ac', ck', cv', cc', by omega, by omega, by rw [hn']; exact XR, RR, by rw [hn']; exact hR7.set4N _ _ _ _ _ (fun x hx => Nat.ne_of_gt (Nat.lt_of_lt_of_le ltC (q1 x hx))) (fun x hx => Nat.ne_of_gt (Nat.lt_of_lt_of_le ltC (q2 x hx))) (fun x hx => Nat.ne_of_gt (Nat.lt_of_lt_of_le ltC (q3 x hx))),
            (fun x hx => ⟨Nat.ne_of_gt (Nat.lt_of_lt_of_le ltC (q1 x hx)), by have := Nat.lt_of_lt_of_le ltC (q1 x hx); omega⟩), (fun x hx => ⟨Nat.ne_of_gt (Nat.lt_of_lt_of_le ltC (q2 x hx)), by have := Nat.lt_of_lt_of_le ltC (q2 x hx); omega⟩), (fun x hx => ⟨Nat.ne_of_gt (Nat.lt_of_lt_of_le ltC (q3 x hx)), by have := Nat.lt_of_lt_of_le ltC (q3 x hx); omega⟩), ((((HB7.out).setCell hrw _).setCell hrw _).setCell hrw _).setCell hrw _⟩
          clear XB RB hR7 q1 q2 q3 b7 HANG XR RR
          simp only [nodV]
          refine HK.out _ _ ?_ (fun _ => hS)
          clear HK K
          try simp only [Act.put, List.setIfInBounds_toArray, List.set_cons_zero, List.set_cons_succ]
          refine ways_step (i := 10) rfl (by kernel_rfl) (fun K hK => ?_)
          have HK := Lib.hid hK
          clear hK
          go_simp
          refine HK.out _ _ ?_ (fun h => absurd rfl h)
          clear HK K
          refine ways_done (by kernel_rfl) ?_
          go_wp2_with fail
          go_roundw
          case rel => exact ⟨j + 1, by go_num, FIN.out⟩
          case measure => simp [intOf]; omega
    · have hend : branchN L j = branchN L (min m 20) := by
        have : j = min m 20 := by omega
        rw [← this]
      rw [hend] at HN HR hN gl go
      clear hend
      have RB := HZ.out
      have y0 : wr.cell? ⟨w.heap.size, 0, none⟩ = some (.bool false) := by rw [Go.Joins.cell_of_block RB]; rfl
      have y1 : wr.cell? ⟨w.heap.size, 1, none⟩ = some (.slice none 0 0) := by rw [Go.Joins.cell_of_block RB]; rfl
      have y2 : wr.cell? ⟨w.heap.size, 2, none⟩ = some (.slice none 0 0) := by rw [Go.Joins.cell_of_block RB]; rfl
      have y3 : wr.cell? ⟨w.heap.size, 3, none⟩ = some (.slice none 0 0) := by rw [Go.Joins.cell_of_block RB]; rfl
      have f0 := Go.Joins.unfrozen_of_block RB 0
      have f1 := Go.Joins.unfrozen_of_block RB 1
      have f2 := Go.Joins.unfrozen_of_block RB 2
      have f3 := Go.Joins.unfrozen_of_block RB 3
      unfold boxC at HN hN
      generalize hn20 : branchN L (min m 20) = n at *
      obtain ⟨lf, K, V, C⟩ := n
      dsimp only at HN hN
      have n0 : wr.cell? ⟨r, 0, none⟩ = some (.bool lf) := by rw [Go.Joins.cell_of_block hN]; rfl
      have n1 : wr.cell? ⟨r, 1, none⟩ = some (.slice ak K.length ck) := by rw [Go.Joins.cell_of_block hN]; rfl
      have n2 : wr.cell? ⟨r, 2, none⟩ = some (.slice av V.length cv) := by rw [Go.Joins.cell_of_block hN]; rfl
      have n3 : wr.cell? ⟨r, 3, none⟩ = some (.slice ac C.length cc) := by rw [Go.Joins.cell_of_block hN]; rfl
      have XR : ((((wr.setCell ⟨w.heap.size, 0, none⟩ (.bool lf)).setCell ⟨w.heap.size, 1, none⟩ (.slice ak K.length ck)).setCell ⟨w.heap.size, 2, none⟩ (.slice av V.length cv)).setCell ⟨w.heap.size, 3, none⟩ (.slice ac C.length cc)).heap[w.heap.size]? = some (.cells #[.bool lf, .slice ak K.length ck, .slice av V.length cv, .slice ac C.length cc] 26) := by
        rw [heap_setCell_same _ _ 3 _ _ _ (heap_setCell_same _ _ 2 _ _ _ (heap_setCell_same _ _ 1 _ _ _ (heap_setCell_same _ _ 0 _ _ _ RB)))]
        rfl
      have z0 : ((((wr.setCell ⟨w.heap.size, 0, none⟩ (.bool lf)).setCell ⟨w.heap.size, 1, none⟩ (.slice ak K.length ck)).setCell ⟨w.heap.size, 2, none⟩ (.slice av V.length cv)).setCell ⟨w.heap.size, 3, none⟩ (.slice ac C.length cc)).cell? ⟨w.heap.size, 0, none⟩ = some (.bool lf) := by rw [Go.Joins.cell_of_block XR]; rfl
      have z1 : ((((wr.setCell ⟨w.heap.size, 0, none⟩ (.bool lf)).setCell ⟨w.heap.size, 1, none⟩ (.slice ak K.length ck)).setCell ⟨w.heap.size, 2, none⟩ (.slice av V.length cv)).setCell ⟨w.heap.size, 3, none⟩ (.slice ac C.length cc)).cell? ⟨w.heap.size, 1, none⟩ = some (.slice ak K.length ck) := by rw [Go.Joins.cell_of_block XR]; rfl
      have z2 : ((((wr.setCell ⟨w.heap.size, 0, none⟩ (.bool lf)).setCell ⟨w.heap.size, 1, none⟩ (.slice ak K.length ck)).setCell ⟨w.heap.size, 2, none⟩ (.slice av V.length cv)).setCell ⟨w.heap.size, 3, none⟩ (.slice ac C.length cc)).cell? ⟨w.heap.size, 2, none⟩ = some (.slice av V.length cv) := by rw [Go.Joins.cell_of_block XR]; rfl
      have z3 : ((((wr.setCell ⟨w.heap.size, 0, none⟩ (.bool lf)).setCell ⟨w.heap.size, 1, none⟩ (.slice ak K.length ck)).setCell ⟨w.heap.size, 2, none⟩ (.slice av V.length cv)).setCell ⟨w.heap.size, 3, none⟩ (.slice ac C.length cc)).cell? ⟨w.heap.size, 3, none⟩ = some (.slice ac C.length cc) := by rw [Go.Joins.cell_of_block XR]; rfl
      have FIN : Hid (NodBack w.heap.size (branchN L (min m 20)) (.returned (.agg #[.bool lf, .slice ak K.length ck, .slice av V.length cv, .slice ac C.length cc])) ((((wr.setCell ⟨w.heap.size, 0, none⟩ (.bool lf)).setCell ⟨w.heap.size, 1, none⟩ (.slice ak K.length ck)).setCell ⟨w.heap.size, 2, none⟩ (.slice av V.length cv)).setCell ⟨w.heap.size, 3, none⟩ (.slice ac C.length cc)) ∧ Below w.heap.size w ((((wr.setCell ⟨w.heap.size, 0, none⟩ (.bool lf)).setCell ⟨w.heap.size, 1, none⟩ (.slice ak K.length ck)).setCell ⟨w.heap.size, 2, none⟩ (.slice av V.length cv)).setCell ⟨w.heap.size, 3, none⟩ (.slice ac C.length cc))) := Lib.hid
        (by rw [hn20]; exact ⟨⟨ak, av, ac, ck, cv, cc, rfl, HR.out.set4N _ _ _ _ _ (fun x hx => Nat.ne_of_gt (G1.out x hx).2) (fun x hx => Nat.ne_of_gt (G2.out x hx).2) (fun x hx => Nat.ne_of_gt (G3.out x hx).2),
          fun x hx => Nat.le_of_lt (G1.out x hx).2, fun x hx => Nat.le_of_lt (G2.out x hx).2, fun x hx => Nat.le_of_lt (G3.out x hx).2⟩,
          ((((HB.out).setCell (Nat.le_refl _) _).setCell (Nat.le_refl _) _).setCell (Nat.le_refl _) _).setCell (Nat.le_refl _) _⟩)
      have Z0 := Lib.hid z0
      have Z1 := Lib.hid z1
      have Z2 := Lib.hid z2
      have Z3 := Lib.hid z3
      clear hN gl go XR RB z0 z1 z2 z3
      by_cases h1 : j < m
      · have hji : (j : Int) < (m : Int) := by omega
        have hj2 : ¬ (j : Int) < 20 := by omega
        go_wp2_with fail
        exact bodyPost_ret (v := .agg #[.bool lf, .slice ak K.length ck, .slice av V.length cv, .slice ac C.length cc]) (by simp [results, Try.results30, go_sem, Z0.out, Z1.out, Z2.out, Z3.out]) rfl (by first | exact FIN.out | (rw [← hn20]; exact FIN.out))
      · have hji : ¬ (j : Int) < (m : Int) := by omega
        go_wp2_with fail
        exact bodyPost_ret (v := .agg #[.bool lf, .slice ak K.length ck, .slice av V.length cv, .slice ac C.length cc]) (by simp [results, Try.results30, go_sem, Z0.out, Z1.out, Z2.out, Z3.out]) rfl (by first | exact FIN.out | (rw [← hn20]; exact FIN.out))
end Go.Proofs.Ytkdcoipbdkmieaa
